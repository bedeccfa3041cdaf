"""A shell after the words of [L2], line by line, to compare the program with."""

import re

from guardbooks.booktexts import entry_text
from guardbooks.errors import GuardError
from guardbooks.knownbooks import baker, dijkstra, hybrid, steele, yuasa
from guardbooks.standingtexts import read_standing
from guardbooks.yards import Yard
from tests.bookpool import ENTRIES, bare, book_of, told_by
from tests.deedmodel import LETTERS, Marked, cells_in_the_end
from tests.safetymodel import ways_of
from tests.test_standingtexts import text_of
from tests.yardmodel import ModelYard, begun, due

INT = r"(0|[1-9]\d{0,2})"
NUMBER = r"(?:0|[1-9]\d?)"
MAKERS = {"baker": baker, "dijkstra": dijkstra, "hybrid": hybrid, "steele": steele, "yuasa": yuasa}
DEEDS = "|".join(
    word + f" {NUMBER}" * (len(letters) - 1) + (f" (?:{NUMBER}|none)" if word == "write" else f" {NUMBER}")
    for word, letters in LETTERS.items())


def row(items):
    return " ".join(map(str, items)) or "none"


class ModelShell:

    def __init__(self):
        self.book, self.yard = bare(False, False), None

    def say(self, line):
        if type(line) is not str:
            return "what"
        for pattern, answer in (
                (r"book (plain|baker|dijkstra|hybrid|steele|yuasa)( pieces)?", self.known), (r"(with|without) (.*)", self.entry),
                (r"last|pieces", self.turned), (r"entries", self.entries), (rf"safe {INT}", self.safe), (r"yard (.*)", self.begin),
                (rf"mark {INT}|sweep|cycle|undo|{DEEDS}", self.edit),
                (r"show|version|cycles|due|freed|reached|lost|floating", self.look)):
            found = re.fullmatch(pattern, line, re.DOTALL)
            if found:
                return answer(line, found)
        return "what"

    def known(self, line, found):
        pieces = found[2] is not None
        self.book = bare(False, pieces) if found[1] == "plain" else MAKERS[found[1]](pieces)
        return "ok"

    def entry(self, line, found):
        entries = {entry_text(entry): entry for entry in ENTRIES}
        if found[2] not in entries:
            return "error BadText"
        entry, told = entries[found[2]], told_by(self.book)
        made = tuple("black" if colour == "white" else colour for colour in self.book[2])
        rest = [other for other in told if other != entry]
        self.book = book_of(rest + [entry] if found[1] == "with" else rest, made, self.book[4])
        return "ok"

    def turned(self, line, found):
        if line == "last":
            self.book = self.book[:3] + (not self.book[3], self.book[4])
        else:
            self.book = self.book[:4] + (not self.book[4],)
        return "ok"

    def entries(self, line, found):
        return "; ".join(entry_text(entry) for entry in sorted(told_by(self.book))) or "none"

    def safe(self, line, found):
        hands = int(found[1])
        return row(ways_of(self.book, hands)) if 1 <= hands <= 4 else "error Unfit"

    def begin(self, line, found):
        numbers = re.fullmatch(rf"{INT} {INT} {INT}", found[1])
        try:
            if numbers:
                hands, rooms, many = map(int, numbers.groups())
                Yard(self.book, (), ((None,) * rooms,) * hands, many)
                self.yard = ModelYard(self.book, (), ((None,) * rooms,) * hands, many)
            else:
                standing = read_standing(found[1])
                heap = tuple(fields for fields, mark in zip(standing[0], standing[1]) if mark != "free")
                many = len(standing[0]) - len(heap)
                if begun(heap, standing[2], many) != standing:
                    return "error Unfit"
                self.yard = ModelYard(self.book, heap, standing[2], many)
        except GuardError as error:
            return f"error {type(error).__name__}"
        return "version 0"

    def edit(self, line, found):
        if self.yard is None:
            return "no yard"
        word, *numbers = line.split(" ")
        edit = (word, *[None if number == "none" else int(number) for number in numbers])
        told = self.yard.undo() if line == "undo" else self.yard.edit(edit)
        return f"version {told}" if type(told) is int else f"error {told[0]}"

    def look(self, line, found):
        if self.yard is None:
            return "no yard"
        standing = self.yard.standing
        if line in ("lost", "floating"):
            if due(standing) != ("sweep",):
                return "error Unfit"
            mark, come_to = ("white", True) if line == "lost" else ("black", False)
            return row(cells_in_the_end(self.yard.book, standing, mark, come_to))
        return {
            "show": lambda: text_of(standing), "version": lambda: str(len(self.yard.log)), "cycles": lambda: str(self.yard.cycles),
            "due": lambda: row(due(standing)), "freed": lambda: row(self.yard.freed),
            "reached": lambda: row(sorted(Marked(standing).come_to()))}[line]()
