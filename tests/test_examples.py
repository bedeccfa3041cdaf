"""Every example that the document gives of what has landed, in its order."""

import unittest

from tests.examples import run_examples

# The texts stand as in the document; names that were set once stay set.
A5 = r"""
>>> from guardbooks.heaps import heap_error
>>> pair = ((1, None), (None,), ())
>>> [heap_error(value) for value in (pair, (), ((),) * 41, [()], ((), None), ((0, 0, 0, 0),), ((1,),), ((None, True),), ((), (0, 2)), ((7,), 0))]
[None, None, 'form', 'form', ('cell', 1), ('cell', 0), ('field', 0, 0), ('field', 0, 1), ('field', 1, 1), ('cell', 1)]
"""

A7 = r"""
>>> from guardbooks.standings import colour_of, standing_error, start
>>> first = (pair + ((),), ("white", "white", "white", "free"), ((0, None),), (False,))
>>> grey = (first[0], (1, "white", "black", "free"), ((0, 1), (None,)), (True, False))
>>> [standing_error(value) for value in (first, grey, first[:3], (((3,),),) + first[1:], first[:1] + (("white",) * 3,) + first[2:])]
[None, None, 'form', ('heap', ('field', 0, 0)), 'marks']
>>> [standing_error(first[:1] + (marks,) + first[2:]) for marks in ((2, "white", "white", "free"), ("white", True, "white", "free"), ("white", "white", 0, "free"), ("free", "white", "white", "free"), ("white", "free", 0, "free"))]
[('mark', 0), ('mark', 1), ('mark', 2), ('free', 0), ('mark', 2)]
>>> [standing_error(first[:2] + (hands,) + first[3:]) for hands in ((), ((),), ((0, 4),), ((3, None),), ((0,), (1,)), [(0,)], ((9,), ()))]
['hands', ('hand', 0), ('room', 0, 1), ('free', 3), 'looked', 'hands', ('hand', 1)]
>>> standing_error(first[:3] + ((0,),)), standing_error((first[0], ("white", "free", "white", "free")) + first[2:])
(('looked', 0), ('free', 1))
"""

A8 = r"""
>>> start(pair, ((0, None),), 1) == first, start((), ((None,),), 0), start((), ((None, None),), 2)[0]
(True, ((), (), ((None,),), (False,)), ((), ()))
>>> [colour_of(grey, cell) for cell in range(4)], [colour_of(first, cell) for cell in (0, 3)]
([1, 0, 2, None], [0, None])
>>> start(((1,),), ((None,),), 0)
raises BadHeap(('field', 0, 0))
>>> start(pair, ((0,),), 38)
raises Unfit()
>>> start(pair, ((0,), (3,)), 1)
raises BadStanding(('free', 3))
"""

A9 = r"""
>>> from guardbooks.reaching import reached, way_to
>>> reached(first), [way_to(first, cell) for cell in range(4)]
((0, 1), [(0, 0), (0, 0, 0), None, None])
>>> ring = (((1, 2), (0,), (2, None, 1)), ("white",) * 3, ((None, 2), (None,)), (False, False))
>>> reached(ring), way_to(ring, 2), way_to(ring, 1), way_to(ring, 0)
((0, 1, 2), (0, 1), (0, 1, 2), (0, 1, 2, 0))
>>> reached((ring[0], ring[1], ((1,),), (True,))), reached((ring[0], ring[1], ((None,),), (True,)))
((0, 1, 2), ())
"""

B2 = r"""
>>> from guardbooks.books import book_error, entries, is_entry, plain_book, with_entry, without
>>> e, f, w = ((), (), ()), (False, False, False), ("white", "white")
>>> plain_book(True, False) == ((e, e), (f, f), w, True, False), book_error(plain_book(False, True))
(True, None)
>>> [book_error(value) for value in (((e, e), (f, f), w, True), [(e, e), (f, f), w, True, False], ((e, e), (f,), w, True, False), (e, (f, f), w, True, False), None)]
['form', 'form', 'form', 'form', 'form']
>>> [book_error(((e, ((), guard, ())), (f, f), w, True, False)) for guard in (("new",), ("again", "new", "old"), ("old", "new"), ("new", "new"), ["new"], ("New",), None)]
[None, None, ('write', 1, 1), ('write', 1, 1), ('write', 1, 1), ('write', 1, 1), ('write', 1, 1)]
>>> [book_error(value) for value in (((e, e), (f, (False, False, 0)), w, True, False), ((e, e), (f, f), ("black", "green"), True, False), ((e, e), (f, f), w, 1, False), ((e, e), (f, f), w, True, None))]
[('read', 1, 2), ('make', 1), 'last', 'pieces']
"""

B3 = r"""
>>> from guardbooks.knownbooks import baker, dijkstra, hybrid, steele, yuasa
>>> entries(plain_book(False, True)), entries(plain_book(True, False)), entries(yuasa(False))
((), (('last',),), (('make', 1), ('write', 1, 0, 'old'), ('write', 1, 1, 'old'), ('write', 1, 2, 'old')))
>>> some = with_entry(with_entry(plain_book(False, False), ("write", 0, 2, "old")), ("write", 0, 2, "again"))
>>> some[0][0], some == with_entry(some, ("write", 0, 2, "old")), without(without(some, ("write", 0, 2, "old")), ("write", 0, 2, "again")) == plain_book(False, False)
(((), (), ('again', 'old')), True, True)
>>> with_entry(plain_book(False, False), ("make", 0))[2], with_entry(((e, e), (f, f), ("grey", "white"), False, False), ("make", 0))[2], without(yuasa(True), ("make", 1)) == without(without(yuasa(True), ("make", 1)), ("last",))
(('black', 'white'), ('grey', 'white'), True)
>>> [is_entry(value) for value in (("last",), ("make", 1), ("read", 0, 2), ("write", 1, 2, "old"), ("make", True), ("write", 1, 3, "old"), ("write", 1, 2), ["last"], "last")]
[True, True, True, True, False, False, False, False, False]
"""

B4 = r"""
>>> from guardbooks.booktexts import book_text, entry_text, read_book, read_entry
>>> [entry_text(entry) for entry in (("last",), ("make", 1), ("read", 0, 2), ("write", 1, 0, "again"))], read_entry("write looked white again")
(['last', 'make looked', 'read unlooked black', 'write looked white again'], ('write', 1, 0, 'again'))
>>> book_text(yuasa(False)), book_text(plain_book(True, True)), book_text(plain_book(False, False))
('make looked black\nwrite looked white old\nwrite looked grey old\nwrite looked black old\n', 'last\npieces\n', '')
>>> read_book("write looked black old\nwrite looked white old\nmake looked black\nwrite looked grey old") == yuasa(False), read_book("pieces\nlast") == plain_book(True, True)
(True, True)
>>> read_entry("make looked black")
raises BadText(0)
>>> read_book("last\nwrite looked black  old\n")
raises BadText(1)
>>> read_book("make looked grey\nlast\nmake looked black")
raises BadText(2)
>>> read_book("\n")
raises BadText(0)
>>> read_book("make looked white")
raises BadText(0)
"""

B5 = r"""
>>> dijkstra(False)[0], dijkstra(True)[0][1], dijkstra(False)[1:] == plain_book(True, False)[1:], steele(True)[0][0]
((((), (), ('new',)), ((), (), ('new',))), ((), ('new',), ('new',)), True, ((), ('again',), ('again',)))
>>> baker(True)[0], baker(False)[1], baker(False)[2], hybrid(False)[0], hybrid(True)[0][0], hybrid(False)[2]
((((), ('new',), ('new',)), ((), (), ())), ((False, False, False), (True, True, False)), ('white', 'black'), ((('old',), ('old',), ('new',)), (('old',), ('old',), ())), (('old',), ('new', 'old'), ('new',)), ('black', 'black'))
>>> from guardbooks.safety import is_safe
>>> five = [maker(False) for maker in (dijkstra, steele, yuasa, baker, hybrid)]
>>> [is_safe(book, 1) for book in five], [is_safe(book, 2) for book in five], is_safe(plain_book(True, False), 1)
([True, True, True, True, True], [True, True, False, True, True], False)
"""

C2 = r"""
>>> from guardbooks.deeds import deed_error
>>> from guardbooks.standings import start
>>> first = start(((1, None), (None,), ()), ((0, None),), 1)
>>> [deed_error(first, value) for value in (("look", 0), ("drop", 0, 1), ("copy", 0, 0, 1), ("make", 0, 1, 3), ("read", 0, 0, 1, 0), ("write", 0, 0, 1, None), ("write", 0, 0, 0, 1))]
[None, None, None, None, None, None, None]
>>> [deed_error(first, value) for value in (("scan", 0), ("scan", 4), ("look", 1), ("drop", 0, 2), ("copy", 0, 0, 2), ("make", 0, 0, 4), ("read", 0, 1, 0, 0), ("read", 0, 0, 2, 0))]
['closed', 'cell', 'hand', 'room', 'room', 'fields', 'empty', 'field']
>>> [deed_error(first, value) for value in (("look", True), ("look",), ["look", 0], ("read", 0, 0, 0, None), ("write", 0, 0, None, 0), ("see", 0), ("drop", 0, -1), None, ("make", 5, 9, 9))]
['form', 'form', 'form', 'form', 'form', 'form', 'form', 'form', 'hand']
"""

C3 = r"""
>>> from guardbooks.books import plain_book
>>> from guardbooks.knownbooks import dijkstra, yuasa
>>> from guardbooks.moving import after, guards_asked, led
>>> bare, bits = plain_book(False, False), plain_book(False, True)
>>> seen = after(bare, first, ("look", 0))
>>> seen[1:], led(bare, seen, (("scan", 0),))[1], led(bits, seen, (("scan", 0),))[1], led(bits, seen, (("scan", 0), ("scan", 0)))[1]
(((0, 'white', 'white', 'free'), ((0, None),), (True,)), ('black', 0, 'white', 'free'), (1, 0, 'white', 'free'), ('black', 0, 'white', 'free'))
>>> hidden = led(bare, seen, (("read", 0, 0, 0, 1), ("write", 0, 0, 0, None), ("scan", 0)))
>>> hidden == (((None, None), (None,), (), ()), ("black", "white", "white", "free"), ((0, 1),), (True,))
True
>>> led(yuasa(False), seen, (("read", 0, 0, 0, 1), ("write", 0, 0, 0, None), ("scan", 0)))[1]
('black', 0, 'white', 'free')
>>> late = (("scan", 0), ("scan", 1), ("make", 0, 1, 1), ("write", 0, 0, 1, 1))
>>> led(bare, seen, late)[0], led(bare, seen, late)[1], led(dijkstra(False), seen, late)[1]
(((1, 3), (None,), (), (None,)), ('black', 'black', 'white', 'white'), ('black', 'black', 'white', 0))
>>> led(bare, first, ()) == first, led(bare, first, (("make", 0, 1, 0), ("drop", 0, 0)))[:3]
(True, (((1, None), (None,), (), ()), ('white', 'white', 'white', 'white'), ((None, 3),)))
>>> after(bare, first, ("scan", 0))
raises Refused(('scan', 0))
>>> led(bare, seen, (("scan", 0), ("scan", 0)))
raises Refused(('scan', 0))
>>> led(bare, first, (("drop", 0, 0),) * 401)
raises TooMany(400)
"""

C4 = r"""
>>> before = led(bare, seen, (("read", 0, 0, 0, 1),))
>>> guards_asked(yuasa(False), before, ("write", 0, 0, 0, None)), guards_asked(yuasa(False), first, ("write", 0, 0, 0, None)), guards_asked(bare, before, ("write", 0, 0, 0, None))
((('write', 1, 1, 'old'),), (), ())
>>> black = led(bare, seen, late[:3])
>>> guards_asked(dijkstra(False), black, late[3]), guards_asked(dijkstra(False), seen, ("scan", 0))
((('write', 1, 2, 'new'),), ())
"""

C5 = r"""
>>> from guardbooks.deedtexts import deed_text, deeds_text, read_deed, read_deeds
>>> deed_text(("write", 0, 1, 0, None)), deeds_text((("look", 0), ("read", 0, 0, 0, 1))), deeds_text(())
('write 0 1 0 none', 'look 0\nread 0 0 0 1', 'none')
>>> read_deed("make 0 1 2"), read_deeds("scan 3\nwrite 0 1 0 2"), read_deeds("none")
(('make', 0, 1, 2), (('scan', 3), ('write', 0, 1, 0, 2)), ())
>>> read_deed("look 00")
raises BadText(0)
>>> read_deeds("look 0\nlook")
raises BadText(1)
>>> read_deeds("look 0\n")
raises BadText(1)
>>> read_deeds("")
raises BadText(0)
>>> read_deed("read 0 0 0 none")
raises BadText(0)
"""

D2 = r"""
>>> from guardbooks.books import plain_book
>>> from guardbooks.ending import finished, floating, is_over, last_look, lost, next_scans
>>> whole, parts, again = plain_book(False, False), plain_book(False, True), plain_book(True, False)
>>> first = (((1, 2), (2,), (), (0,), ()), ("white",) * 4 + ("free",), ((0,),), (False,))
>>> is_over(first), next_scans(first), finished(whole, first)[0], finished(parts, first)[0]
(False, (), (('look', 0), ('scan', 0), ('scan', 1)), (('look', 0), ('scan', 0), ('scan', 0), ('scan', 1)))
>>> end = finished(whole, first)[1]
>>> end == (first[0], ("black", "black", "black", "white", "free"), ((0,),), (True,)), finished(parts, first)[1] == end, is_over(end), finished(whole, end) == ((), end)
(True, True, True, True)
>>> two = (((1,), (None,), (3,), (None,)), ("white", 0, "white", "white"), ((0, None), (None, 2)), (True, False))
>>> next_scans(two), finished(whole, two)[0], finished(whole, two)[1] == (two[0], ("white", "black", "black", "black"), two[2], (True, True))
((1,), (('look', 1), ('scan', 1), ('scan', 2), ('scan', 3)), True)
"""

D3 = r"""
>>> hidden = (((None,), (2,), ()), ("black", "white", "white"), ((0, 1),), (True,))
>>> lost(whole, hidden), lost(again, hidden), last_look(whole, hidden) == hidden, last_look(again, hidden)[1]
((1, 2), (), True, ('black', 'black', 'black'))
>>> lost(whole, end), floating(whole, end), lost(again, finished(again, two)[1]), lost(whole, finished(whole, two)[1])
((), (), (), (0,))
>>> dropped = (((2,), (2,), ()), ("black", "black", "black"), ((1,),), (True,))
>>> floating(whole, dropped), floating(again, dropped), lost(whole, dropped)
((0,), (0,), ())
>>> lost(whole, two)
raises Unfit()
"""

D4 = r"""
>>> from guardbooks.sweeping import freed, swept
>>> freed(whole, end), swept(whole, end) == (((1, 2), (2,), (), (), ()), ("white",) * 3 + ("free",) * 2, ((0,),), (False,))
((3,), True)
>>> swept(again, hidden) == (hidden[0], ("white",) * 3, ((0, 1),), (False,)), freed(again, hidden)
(True, ())
>>> loose = (((), (2,), (None,)), ("black", "black", "white"), ((0,),), (True,))
>>> floating(whole, loose), freed(whole, loose), swept(whole, loose)
((1,), (2,), (((), (None,), ()), ('white', 'white', 'free'), ((0,),), (False,)))
>>> swept(whole, hidden)
raises Lost((1, 2))
>>> freed(whole, first)
raises Unfit()
"""

E2 = r"""
>>> from guardbooks.books import entries, plain_book, with_entry, without
>>> from guardbooks.knownbooks import baker, dijkstra, hybrid, steele, yuasa
>>> from guardbooks.safety import is_safe, starts_early, ways
>>> five = [maker(False) for maker in (dijkstra, steele, yuasa, baker, hybrid)]
>>> [ways(book, 1) for book in five], [ways(book, 2) for book in five], [starts_early(book) for book in five]
([('last',), ('last',), ('old',), ('read',), ('old',)], [('last',), ('last',), (), ('read',), ('old',)], [False, False, False, False, True])
>>> is_safe(plain_book(False, False), 1), is_safe(plain_book(True, False), 1), is_safe(without(dijkstra(False), ("write", 0, 2, "new")), 1), is_safe(without(dijkstra(False), ("write", 0, 2, "new")), 2)
(False, False, True, False)
>>> full = with_entry(with_entry(hybrid(False), ("read", 1, 0)), ("read", 1, 1))
>>> ways(full, 3), ways(full, 3) == ways(full, 2), ways(without(full, ("make", 1)), 2), ways((full[0], full[1], full[2], full[3], True), 2)
(('child', 'old', 'read'), True, (), ())
"""

E3 = r"""
>>> from guardbooks.leastbooks import fewest_added, is_least, least_books, least_part, needless
>>> needless(hybrid(False), 1), needless(hybrid(False), 2), needless(yuasa(False), 1), needless(dijkstra(False), 1), needless(dijkstra(False), 2), needless(baker(False), 4)
((('make', 0), ('write', 0, 0, 'old'), ('write', 0, 1, 'old')), (('make', 0),), (('write', 1, 2, 'old'),), (('write', 0, 2, 'new'),), (), (('read', 1, 0),))
>>> least_part(hybrid(False), 2) == without(hybrid(False), ("make", 0)), is_least(least_part(hybrid(False), 1), 1), is_least(dijkstra(True), 2), is_least(yuasa(True), 2)
(True, True, True, False)
>>> [len(least_books(hands, last, pieces)) for hands in (1, 2) for last in (False, True) for pieces in (False, True)], least_books(3, False, False) == least_books(2, False, False)
([3, 3, 2, 4, 6, 12, 4, 16], True)
>>> [entries(book) for book in least_books(1, False, False)]
[(('make', 1), ('read', 1, 1)), (('make', 1), ('read', 1, 0), ('write', 1, 1, 'old')), (('make', 1), ('write', 1, 0, 'old'), ('write', 1, 1, 'old'))]
>>> [len(fewest_added(book, hands)) for book, hands in ((plain_book(False, False), 1), (plain_book(False, False), 2), (plain_book(False, True), 2), (yuasa(False), 2), (hybrid(False), 4))]
[2, 3, 4, 2, 0]
>>> len(fewest_added(without(hybrid(False), ("write", 0, 0, "old")), 2)), fewest_added(without(dijkstra(False), ("last",)), 1), fewest_added(without(baker(False), ("make", 1)), 2)
(1, (('last',),), (('make', 1),))
>>> needless(plain_book(True, True), 1)
raises Unfit()
>>> least_part(yuasa(False), 2)
raises Unfit()
"""

F2 = r"""
>>> from guardbooks.losing import losing
>>> from guardbooks.losingjudge import losing_error
>>> losing(hybrid(False), 2), losing(yuasa(True), 1)
(None, None)
>>> run = losing(yuasa(False), 2)
>>> losing_error(yuasa(False), 2, run), len(run[0]) + run[2] <= 4, len(run[3]) <= 20, len(run[1])
(None, True, True, 2)
"""

F3 = r"""
>>> plain, made = plain_book(False, False), ((), ((None,),), 1, (("look", 0), ("make", 0, 0, 0)))
>>> losing_error(plain, 1, made), losing_error(dijkstra(False), 1, made), losing_error(plain, 2, made)
(None, 'kept', 'hands')
>>> [losing_error(plain, 1, value) for value in (made[:3], made[:3] + ([],), (((5,),),) + made[1:], made[:3] + ((("scan", 0),),), made[:3] + ((("make", 0, 0, 0),),), made[:3] + ((("look", 0), ("look", 0)),))]
['form', 'form', 'start', ('deed', 0), 'over', ('deed', 1)]
>>> hidden = (((None,), ()), ((0,), (0, 1)), 0, (("look", 0), ("scan", 0), ("write", 1, 0, 0, 1), ("drop", 1, 1), ("look", 1)))
>>> [losing_error(book, 2, hidden) for book in (plain, yuasa(False), hybrid(False), dijkstra(False), baker(False))]
[None, None, 'kept', 'kept', 'kept']
>>> taken = (((1,), ()), ((0, None),), 0, (("look", 0), ("read", 0, 0, 0, 1), ("write", 0, 0, 0, None), ("scan", 0)))
>>> [losing_error(book, 1, taken) for book in (plain, with_entry(plain, ("make", 1)), yuasa(False), baker(False), dijkstra(False), without(dijkstra(False), ("last",)))]
[None, None, 'kept', 'kept', 'kept', None]
"""

PROMISES = "A5 A7 A8 A9 B2 B3 B4 B5 C2 C3 C4 C5 D2 D3 D4 E2 E3 F2 F3".split()


class ExamplesTest(unittest.TestCase):

    def test_all_in_order(self):
        names = {}
        for promise in PROMISES:
            with self.subTest(promise=promise):
                run_examples(self, globals()[promise], names)


if __name__ == "__main__":
    unittest.main()
