"""The interface, and what is told of the whole program: one book and one heap, gone through by all its parts."""

import importlib
import inspect
import random
import unittest

from guardbooks.books import book_error, entries, is_entry, with_entry, without
from guardbooks.booktexts import book_text, entry_text, read_book, read_entry
from guardbooks.counting import counts, left, out_of_use
from guardbooks.deeds import deed_error
from guardbooks.deedtexts import deed_text, deeds_text, read_deed, read_deeds
from guardbooks.ending import finished, floating, is_over, lost, next_scans
from guardbooks.errors import BadBook, BadHeap, BadLog, BadStanding, BadText, GuardError, Refused, Unfit
from guardbooks.heaps import heap_error
from guardbooks.knownbooks import baker, dijkstra, hybrid, steele, yuasa
from guardbooks.leastbooks import fewest_added, is_least, least_books, least_part, needless
from guardbooks.losing import losing
from guardbooks.losingjudge import losing_error
from guardbooks.moving import after, guards_asked, led
from guardbooks.prices import cheapest, cheapest_error, prices_error, total
from guardbooks.programs import program_error, programs_error
from guardbooks.reaching import reached, way_to
from guardbooks.safety import is_safe, ways
from guardbooks.shells import Shell
from guardbooks.shields import chain, chain_error, held_white, invariant, seen_white
from guardbooks.standings import standing_error, start
from guardbooks.standingtexts import read_standing, standing_text
from guardbooks.sweeping import freed, swept
from guardbooks.weaving import kept, may_lose, unasked, woven
from guardbooks.yardlogs import log_text, read_log, yard_behind
from guardbooks.yards import Yard
from tests.bookpool import bare, full, random_books
from tests.deedmodel import quick_run
from tests.safetymodel import near_books
from tests.standingpool import WIDE, ring
from tests.support import GuardCase, PAIR

# What the interface lists: of each file its functions, with the names of their arguments.
INTERFACE = {
    "heaps": {"heap_error": "value"},
    "standings": {"standing_error": "value", "start": "heap hands many", "colour_of": "standing cell"},
    "reaching": {"reached": "standing", "way_to": "standing cell"},
    "books": {
        "book_error": "value", "plain_book": "last pieces", "is_entry": "value", "entries": "book", "with_entry": "book entry",
        "without": "book entry"},
    "booktexts": {"entry_text": "entry", "read_entry": "value", "book_text": "book", "read_book": "value"},
    "knownbooks": {"dijkstra": "pieces", "steele": "pieces", "yuasa": "pieces", "baker": "pieces", "hybrid": "pieces"},
    "deeds": {"deed_error": "standing value"},
    "moving": {"after": "book standing deed", "led": "book standing deeds", "guards_asked": "book standing deed"},
    "deedtexts": {"deed_text": "deed", "deeds_text": "deeds", "read_deed": "value", "read_deeds": "value"},
    "ending": {
        "is_over": "standing", "next_scans": "standing", "finished": "book standing", "last_look": "book standing",
        "lost": "book standing", "floating": "book standing"},
    "sweeping": {"freed": "book standing", "swept": "book standing"},
    "safety": {"starts_early": "book", "ways": "book hands", "is_safe": "book hands"},
    "leastbooks": {
        "needless": "book hands", "is_least": "book hands", "least_part": "book hands", "least_books": "hands last pieces",
        "fewest_added": "book hands"},
    "losing": {"losing": "book hands"},
    "losingjudge": {"losing_error": "book hands value"},
    "shields": {
        "seen_white": "standing", "held_white": "standing", "chain": "standing cell", "chain_error": "standing cell value",
        "broken": "way standing", "invariant": "way standing"},
    "counting": {"left": "standing", "out_of_use": "standing", "counts": "book standing deeds"},
    "programs": {"program_error": "value", "programs_error": "standing value"},
    "weaving": {
        "woven": "book standing programs", "may_lose": "book standing programs", "kept": "book standing programs",
        "unasked": "book standing programs"},
    "prices": {
        "prices_error": "value", "total": "book prices", "cheapest": "prices hands pieces",
        "cheapest_error": "prices hands pieces value"},
    "yardlogs": {"log_text": "log", "read_log": "value", "yard_behind": "book heap rooms many value"},
    "standingtexts": {"standing_text": "standing", "read_standing": "value"},
}

KNOWN = [maker(pieces) for maker in (dijkstra, steele, yuasa, baker, hybrid) for pieces in (False, True)]
BEGUN = (
    (PAIR, ((0, None), (1,)), 2), (((1, 2), (2, None), ()), ((0, None, None),), 1), (ring(5), ((0, 2), (None, None), (4,)), 4),
    ((), ((None, None),) * 4, 3), (((1,), (0,), (2, 2, 2), (None,)), ((3, 1), (None, 2)), 0), (WIDE[0], WIDE[2], 0))
PRICES = tuple((entry, place) for place, entry in enumerate(sorted(entries(full("black", False)))))


def blackened(book):
    """The book with black where it makes grey: so books are that come of a shell's lines."""
    return book[:2] + (tuple("black" if colour == "grey" else colour for colour in book[2]),) + book[3:]


class InterfaceTest(unittest.TestCase):

    def test_functions(self):
        for name, told in INTERFACE.items():
            module = importlib.import_module(f"guardbooks.{name}")
            for function, arguments in told.items():
                made = getattr(module, function)
                self.assertTrue(inspect.isfunction(made), function)
                self.assertEqual((made.__module__, made.__name__), (module.__name__, function))
                self.assertEqual(list(inspect.signature(made).parameters), arguments.split(), function)
                for parameter in inspect.signature(made).parameters.values():
                    self.assertIs(parameter.default, inspect.Parameter.empty)

    def test_classes(self):
        for name, arguments, methods in (
                (Yard, "book heap rooms many", "make read write drop copy look scan mark sweep cycle undo twin __eq__"),
                (Shell, "", "say")):
            self.assertEqual(list(inspect.signature(name).parameters), arguments.split())
            self.assertEqual(name.__module__, f"guardbooks.{name.__name__.lower()}s")
            for method in methods.split():
                self.assertIn(method, vars(name))

    def test_attributes(self):
        yard = Yard(bare(False, False), (), ((None,),), 1)
        for name in ("book", "standing", "log", "version", "cycles", "freed", "due"):
            self.assertTrue(hasattr(yard, name))


class OneBookAndOneHeapTest(GuardCase):

    def cases(self):
        chance = random.Random(181)
        books = KNOWN + near_books(chance, 25) + random_books(10) + [bare(False, False), bare(True, True), full("grey", True)]
        for book in books:
            for heap, rooms, many in chance.sample(BEGUN, 3):
                yield chance, book, heap, rooms, many

    def test_a_start_is_told_alike(self):
        for _, book, heap, rooms, many in self.cases():
            self.assertIsNone(heap_error(heap))
            self.assertIsNone(book_error(book))
            first = start(heap, rooms, many)
            self.assertIsNone(standing_error(first))
            yard = Yard(book, heap, rooms, many)
            self.assertEqual(yard.standing, first)
            self.assertEqual(read_standing(standing_text(first)), first)
            shell = Shell()
            shell.say(f"yard {standing_text(first)}")
            self.assertEqual(shell.say("show"), standing_text(first))
            self.assertEqual(shell.say("reached"), " ".join(map(str, reached(first))) or "none")
            self.assertEqual(
                [cell for cell in range(len(first[0])) if way_to(first, cell) is not None], list(reached(first)))
            self.assertEqual((seen_white(first), held_white(first), left(first), next_scans(first)), ((), (), (0, 0), ()))

    def test_a_book_is_told_alike(self):
        for _, book, _, rooms, _ in self.cases():
            hands = len(rooms)
            shell = Shell()
            shell.say("book plain pieces" if book[4] else "book plain")
            for entry in entries(book):
                self.assertTrue(is_entry(entry))
                self.assertEqual(read_entry(entry_text(entry)), entry)
                self.assertEqual(without(with_entry(book, entry), entry), without(book, entry))
                shell.say(f"with {entry_text(entry)}")
            self.assertEqual(read_book(book_text(book)), book)
            self.assertEqual(shell.say("entries"), "; ".join(map(entry_text, entries(book))) or "none")
            safe = ways(book, hands) != ()
            self.assertEqual(shell.say(f"safe {hands}"), " ".join(ways(book, hands)) or "none")
            self.assertIs(is_safe(book, hands), safe)
            self.assertEqual(losing(book, hands) is None, safe)
            self.assertEqual(fewest_added(book, hands) == (), safe)
            told = cheapest_error(tuple((entry, 0) for entry, _ in PRICES), hands, book[4], book)
            self.assertEqual(told, None if safe else "safe")
            if safe:
                part = least_part(book, hands)
                self.assertEqual(is_least(book, hands), needless(book, hands) == ())
                self.assertIn(blackened(part), least_books(hands, part[3], part[4]))
                self.assertGreaterEqual(total(book, PRICES), total(part, PRICES))
                self.assertGreaterEqual(total(part, PRICES), total(cheapest(PRICES, hands, book[4]), PRICES))
            else:
                self.assertRaises(Unfit, needless, book, hands)
                self.assertIsNone(losing_error(book, hands, losing(book, hands)))

    def test_a_run_is_told_alike(self):
        """By deeds one by one and all at once, as edits, as lines of a shell, as texts, and as they are counted."""
        for chance, book, heap, rooms, many in self.cases():
            first, book = start(heap, rooms, many), blackened(book)
            deeds = quick_run(chance, book, first, 12)
            shell = self.shell_of(book, first)
            yard = Yard(book, heap, rooms, many)
            here, asked = first, []
            for version, deed in enumerate(deeds, 1):
                asked.extend(guards_asked(book, here, deed))
                here = after(book, here, deed)
                self.assertEqual(getattr(yard, deed[0])(*deed[1:]), version)
                self.assertEqual(shell.say(deed_text(deed)), f"version {version}")
                self.assertEqual((yard.standing, shell.say("show")), (here, standing_text(here)))
                for way in ways(book, len(rooms)):
                    self.assertTrue(invariant(way, here))
            self.assertEqual(led(book, first, deeds), here)
            self.assertEqual(read_deeds(deeds_text(deeds)), deeds)
            self.assertEqual((yard.log, read_log(log_text(deeds))), (deeds, deeds))
            self.assertEqual(yard_behind(book, heap, rooms, many, deeds), yard)
            counted = counts(book, first, deeds)
            self.assertEqual(sum(times for _, times in counted[5]), len(asked))
            self.assertEqual(counted[0], sum(here[3]))

    def test_an_end_is_told_alike(self):
        for chance, book, heap, rooms, many in self.cases():
            first, book = start(heap, rooms, many), blackened(book)
            deeds = quick_run(chance, book, first, 10)
            behind = led(book, first, deeds)
            rest, end = finished(book, behind)
            yard, shell = yard_behind(book, heap, rooms, many, deeds), self.shell_of(book, first)
            for deed in deeds:
                shell.say(deed_text(deed))
            if rest:
                self.assertEqual((yard.due, shell.say("due")), (rest[0], deed_text(rest[0])))
                yard.mark(400)
                shell.say("mark 400")
            self.assertEqual((yard.due, yard.standing, shell.say("show")), (("sweep",), end, standing_text(end)))
            self.assertTrue(is_over(end))
            self.assertEqual(shell.say("lost"), " ".join(map(str, lost(book, end))) or "none")
            self.assertEqual(shell.say("floating"), " ".join(map(str, floating(book, end))) or "none")
            run = (heap, rooms, many, deeds + rest)
            self.assertEqual(losing_error(book, len(rooms), run), None if lost(book, end) else "kept")
            if lost(book, end):
                self.assertFalse(is_safe(book, len(rooms)))
                self.assertEqual(shell.say("sweep"), "error Lost")
            else:
                yard.sweep()
                self.assertRegex(shell.say("sweep"), "^version ")
                self.assertEqual((yard.standing, yard.freed), (swept(book, end), freed(book, end)))
                self.assertEqual(shell.say("freed"), " ".join(map(str, freed(book, end))) or "none")
                self.assertLessEqual(set(out_of_use(first)), set(yard.freed))

    def test_weavings_are_told_alike(self):
        for chance, book, heap, rooms, many in self.cases():
            first = start(heap, rooms, many)
            if len(first[0]) < 10:
                nothing = ((),) * len(rooms)
                end = finished(book, first)[1]
                self.assertEqual(kept(book, first, nothing), (len(floating(book, end)),) * 2)
                self.assertIsNone(may_lose(book, first, nothing))
                self.assertEqual(unasked(book, first, nothing), entries(book))
                lines = (("read", 0, 0, 0), ("write", 0, 0, None))
                self.assertIsNone(program_error(lines))
                programs = (lines,) + ((),) * (len(rooms) - 1)
                self.assertIsNone(programs_error(first, programs))
                self.assertGreaterEqual(woven(book, first, programs), woven(book, first, nothing))
                deeds = may_lose(book, first, programs)
                if deeds is not None:
                    self.assertFalse(is_safe(book, len(rooms)))
                    self.assertIsNone(losing_error(book, len(rooms), (heap, rooms, many, deeds)))

    def test_chains_of_a_marking(self):
        """Whatever a chain leads to is black in the end, if the hands do nothing any more."""
        for chance, book, heap, rooms, many in self.cases():
            behind = led(book, start(heap, rooms, many), quick_run(chance, book, start(heap, rooms, many), 8))
            end = finished(book, behind)[1]
            for cell in range(len(behind[0])):
                found = chain(behind, cell)
                if found is not None:
                    self.assertIsNone(chain_error(behind, cell, found))
                    self.assertEqual(end[1][cell], "black")

    def shell_of(self, book, first):
        shell = Shell()
        shell.say("book plain pieces" if book[4] else "book plain")
        for entry in entries(book):
            shell.say(f"with {entry_text(entry)}")
        self.assertEqual(shell.say(f"yard {standing_text(first)}"), "version 0")
        return shell


class ReturnedValuesTest(GuardCase):
    """What this package returned may be handed in as any value, also with parts changed."""

    def values(self):
        yard = Yard(yuasa(False), PAIR, ((0, None),), 1)
        run = losing(yuasa(False), 2)
        yield from (
            yard, Shell(), (yard,), [yard], {"yard": yard}, (yard,) * 4, (yard,) * 5, yard.standing, yard.standing[:3] + (yard,),
            (yard,) + yard.standing[1:], yard.standing[:1] + ((yard,) * 4,) + yard.standing[2:], run, run[:3] + ((yard,),),
            run[:3] + ((("look", yard),),), yuasa(False)[:4] + (yard,), (((yard,) * 3,) * 2,) + yuasa(False)[1:],
            yuasa(False)[:1] + (((yard,) * 3,) * 2,) + yuasa(False)[2:], yuasa(False)[:2] + ((yard, yard),) + yuasa(False)[3:],
            least_books(4, True, True), finished(hybrid(True), WIDE), ("look", yard), (("drop", yard),), ((("last",), yard),),
            ((yard, 1),), ("last", yard), (yard, "last"), PRICES, PRICES[:3] + (yard,), standing_text(WIDE), book_text(hybrid(True)),
            entries(hybrid(True)), Refused(yard))

    def test_all_that_take_any_value(self):
        standing = start(PAIR, ((0, None),), 1)
        for value in self.values():
            before = repr(value)
            for told, right in (
                    (heap_error(value), value in ((),)), (standing_error(value), type(value) is tuple and value == Yard(
                        yuasa(False), PAIR, ((0, None),), 1).standing), (book_error(value), False),
                    (prices_error(value), type(value) is tuple and value == PRICES), (deed_error(standing, value), False),
                    (losing_error(yuasa(False), 2, value), type(value) is tuple and value == losing(yuasa(False), 2)),
                    (chain_error(standing, 0, value), False), (program_error(value), False), (programs_error(standing, value), False),
                    (cheapest_error(PRICES, 2, False, value), False)):
                self.assertEqual(told is None, right, (value, told))
            self.assertIs(is_entry(value), False)
            for function, error in (
                    (read_entry, BadText), (read_deed, BadText), (read_deeds, BadText), (read_log, BadText)):
                self.assertRaises(error, function, value)
            if type(value) is not str:
                self.assertRaises(BadText, read_book, value)
                self.assertRaises(BadText, read_standing, value)
                self.assertEqual(Shell().say(value), "what")
            self.assertRaises(Refused, after, bare(False, False), standing, value)
            self.assertRaises((BadHeap, BadStanding), start, (value,), value, 0)
            self.assertRaises(BadBook, Yard, value, (), ((None,),), 0)
            self.assertRaises(BadLog, yard_behind, bare(False, False), (), ((None,),), 0, (value,))
            self.assertEqual(repr(value), before)

    def test_errors_have_no_other_error_above_them_but_guard_error(self):
        for error in (BadBook, BadHeap, BadLog, BadStanding, BadText, Refused, Unfit):
            self.assertEqual(error.__mro__[1], GuardError)


if __name__ == "__main__":
    unittest.main()
