"""Every example that the document gives of what has landed, in its order."""

import unittest

from tests.examples import run_examples

# The texts stand as in the document; names that were set once stay set. What B5 says with guardbooks.safety is
# not among them: that module has not landed.
A5 = r"""
>>> from guardbooks.heaps import heap_error
>>> pair = ((1, None), (None,), ())
>>> [heap_error(value) for value in (pair, (), ((),) * 41, [()], ((), None), ((0, 0, 0, 0),), ((1,),), ((None, True),), ((), (0, 2)), ((7,), 0))]
[None, None, 'form', 'form', ('cell', 1), ('cell', 0), ('field', 0, 0), ('field', 0, 1), ('field', 1, 1), ('cell', 1)]
"""

A7 = r"""
>>> from guardbooks.standings import colour_of, standing_error, start
>>> first = (pair + ((),), ("white", "white", "white", "free"), ((0, None),), (False,))
>>> grey = (first[0], (1, "white", "black", "free"), ((0, 1), (None,)), (True, False))
>>> [standing_error(value) for value in (first, grey, first[:3], (((3,),),) + first[1:], first[:1] + (("white",) * 3,) + first[2:])]
[None, None, 'form', ('heap', ('field', 0, 0)), 'marks']
>>> [standing_error(first[:1] + (marks,) + first[2:]) for marks in ((2, "white", "white", "free"), ("white", True, "white", "free"), ("white", "white", 0, "free"), ("free", "white", "white", "free"), ("white", "free", 0, "free"))]
[('mark', 0), ('mark', 1), ('mark', 2), ('free', 0), ('mark', 2)]
>>> [standing_error(first[:2] + (hands,) + first[3:]) for hands in ((), ((),), ((0, 4),), ((3, None),), ((0,), (1,)), [(0,)], ((9,), ()))]
['hands', ('hand', 0), ('room', 0, 1), ('free', 3), 'looked', 'hands', ('hand', 1)]
>>> standing_error(first[:3] + ((0,),)), standing_error((first[0], ("white", "free", "white", "free")) + first[2:])
(('looked', 0), ('free', 1))
"""

A8 = r"""
>>> start(pair, ((0, None),), 1) == first, start((), ((None,),), 0), start((), ((None, None),), 2)[0]
(True, ((), (), ((None,),), (False,)), ((), ()))
>>> [colour_of(grey, cell) for cell in range(4)], [colour_of(first, cell) for cell in (0, 3)]
([1, 0, 2, None], [0, None])
>>> start(((1,),), ((None,),), 0)
raises BadHeap(('field', 0, 0))
>>> start(pair, ((0,),), 38)
raises Unfit()
>>> start(pair, ((0,), (3,)), 1)
raises BadStanding(('free', 3))
"""

A9 = r"""
>>> from guardbooks.reaching import reached, way_to
>>> reached(first), [way_to(first, cell) for cell in range(4)]
((0, 1), [(0, 0), (0, 0, 0), None, None])
>>> ring = (((1, 2), (0,), (2, None, 1)), ("white",) * 3, ((None, 2), (None,)), (False, False))
>>> reached(ring), way_to(ring, 2), way_to(ring, 1), way_to(ring, 0)
((0, 1, 2), (0, 1), (0, 1, 2), (0, 1, 2, 0))
>>> reached((ring[0], ring[1], ((1,),), (True,))), reached((ring[0], ring[1], ((None,),), (True,)))
((0, 1, 2), ())
"""

B2 = r"""
>>> from guardbooks.books import book_error, entries, is_entry, plain_book, with_entry, without
>>> e, f, w = ((), (), ()), (False, False, False), ("white", "white")
>>> plain_book(True, False) == ((e, e), (f, f), w, True, False), book_error(plain_book(False, True))
(True, None)
>>> [book_error(value) for value in (((e, e), (f, f), w, True), [(e, e), (f, f), w, True, False], ((e, e), (f,), w, True, False), (e, (f, f), w, True, False), None)]
['form', 'form', 'form', 'form', 'form']
>>> [book_error(((e, ((), guard, ())), (f, f), w, True, False)) for guard in (("new",), ("again", "new", "old"), ("old", "new"), ("new", "new"), ["new"], ("New",), None)]
[None, None, ('write', 1, 1), ('write', 1, 1), ('write', 1, 1), ('write', 1, 1), ('write', 1, 1)]
>>> [book_error(value) for value in (((e, e), (f, (False, False, 0)), w, True, False), ((e, e), (f, f), ("black", "green"), True, False), ((e, e), (f, f), w, 1, False), ((e, e), (f, f), w, True, None))]
[('read', 1, 2), ('make', 1), 'last', 'pieces']
"""

B3 = r"""
>>> from guardbooks.knownbooks import baker, dijkstra, hybrid, steele, yuasa
>>> entries(plain_book(False, True)), entries(plain_book(True, False)), entries(yuasa(False))
((), (('last',),), (('make', 1), ('write', 1, 0, 'old'), ('write', 1, 1, 'old'), ('write', 1, 2, 'old')))
>>> some = with_entry(with_entry(plain_book(False, False), ("write", 0, 2, "old")), ("write", 0, 2, "again"))
>>> some[0][0], some == with_entry(some, ("write", 0, 2, "old")), without(without(some, ("write", 0, 2, "old")), ("write", 0, 2, "again")) == plain_book(False, False)
(((), (), ('again', 'old')), True, True)
>>> with_entry(plain_book(False, False), ("make", 0))[2], with_entry(((e, e), (f, f), ("grey", "white"), False, False), ("make", 0))[2], without(yuasa(True), ("make", 1)) == without(without(yuasa(True), ("make", 1)), ("last",))
(('black', 'white'), ('grey', 'white'), True)
>>> [is_entry(value) for value in (("last",), ("make", 1), ("read", 0, 2), ("write", 1, 2, "old"), ("make", True), ("write", 1, 3, "old"), ("write", 1, 2), ["last"], "last")]
[True, True, True, True, False, False, False, False, False]
"""

B4 = r"""
>>> from guardbooks.booktexts import book_text, entry_text, read_book, read_entry
>>> [entry_text(entry) for entry in (("last",), ("make", 1), ("read", 0, 2), ("write", 1, 0, "again"))], read_entry("write looked white again")
(['last', 'make looked', 'read unlooked black', 'write looked white again'], ('write', 1, 0, 'again'))
>>> book_text(yuasa(False)), book_text(plain_book(True, True)), book_text(plain_book(False, False))
('make looked black\nwrite looked white old\nwrite looked grey old\nwrite looked black old\n', 'last\npieces\n', '')
>>> read_book("write looked black old\nwrite looked white old\nmake looked black\nwrite looked grey old") == yuasa(False), read_book("pieces\nlast") == plain_book(True, True)
(True, True)
>>> read_entry("make looked black")
raises BadText(0)
>>> read_book("last\nwrite looked black  old\n")
raises BadText(1)
>>> read_book("make looked grey\nlast\nmake looked black")
raises BadText(2)
>>> read_book("\n")
raises BadText(0)
>>> read_book("make looked white")
raises BadText(0)
"""

B5 = r"""
>>> dijkstra(False)[0], dijkstra(True)[0][1], dijkstra(False)[1:] == plain_book(True, False)[1:], steele(True)[0][0]
((((), (), ('new',)), ((), (), ('new',))), ((), ('new',), ('new',)), True, ((), ('again',), ('again',)))
>>> baker(True)[0], baker(False)[1], baker(False)[2], hybrid(False)[0], hybrid(True)[0][0], hybrid(False)[2]
((((), ('new',), ('new',)), ((), (), ())), ((False, False, False), (True, True, False)), ('white', 'black'), ((('old',), ('old',), ('new',)), (('old',), ('old',), ())), (('old',), ('new', 'old'), ('new',)), ('black', 'black'))
"""

TEXTS = (
    ("A5", A5), ("A7", A7), ("A8", A8), ("A9", A9), ("B2", B2), ("B3", B3), ("B4", B4), ("B5", B5))


class ExamplesTest(unittest.TestCase):

    def test_all_in_order(self):
        names = {}
        for promise, text in TEXTS:
            with self.subTest(promise=promise):
                run_examples(self, text, names)


if __name__ == "__main__":
    unittest.main()
