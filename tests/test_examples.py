"""Every example that the document gives of what has landed, in its order."""

import unittest

from tests.examples import run_examples

# The texts stand as in the document; names that were set once stay set.
A5 = r"""
>>> from guardbooks.heaps import heap_error
>>> pair = ((1, None), (None,), ())
>>> [heap_error(value) for value in (pair, (), ((),) * 41, [()], ((), None), ((0, 0, 0, 0),), ((1,),), ((None, True),), ((), (0, 2)), ((7,), 0))]
[None, None, 'form', 'form', ('cell', 1), ('cell', 0), ('field', 0, 0), ('field', 0, 1), ('field', 1, 1), ('cell', 1)]
"""

A7 = r"""
>>> from guardbooks.standings import colour_of, standing_error, start
>>> first = (pair + ((),), ("white", "white", "white", "free"), ((0, None),), (False,))
>>> grey = (first[0], (1, "white", "black", "free"), ((0, 1), (None,)), (True, False))
>>> [standing_error(value) for value in (first, grey, first[:3], (((3,),),) + first[1:], first[:1] + (("white",) * 3,) + first[2:])]
[None, None, 'form', ('heap', ('field', 0, 0)), 'marks']
>>> [standing_error(first[:1] + (marks,) + first[2:]) for marks in ((2, "white", "white", "free"), ("white", True, "white", "free"), ("white", "white", 0, "free"), ("free", "white", "white", "free"), ("white", "free", 0, "free"))]
[('mark', 0), ('mark', 1), ('mark', 2), ('free', 0), ('mark', 2)]
>>> [standing_error(first[:2] + (hands,) + first[3:]) for hands in ((), ((),), ((0, 4),), ((3, None),), ((0,), (1,)), [(0,)], ((9,), ()))]
['hands', ('hand', 0), ('room', 0, 1), ('free', 3), 'looked', 'hands', ('hand', 1)]
>>> standing_error(first[:3] + ((0,),)), standing_error((first[0], ("white", "free", "white", "free")) + first[2:])
(('looked', 0), ('free', 1))
"""

A8 = r"""
>>> start(pair, ((0, None),), 1) == first, start((), ((None,),), 0), start((), ((None, None),), 2)[0]
(True, ((), (), ((None,),), (False,)), ((), ()))
>>> [colour_of(grey, cell) for cell in range(4)], [colour_of(first, cell) for cell in (0, 3)]
([1, 0, 2, None], [0, None])
>>> start(((1,),), ((None,),), 0)
raises BadHeap(('field', 0, 0))
>>> start(pair, ((0,),), 38)
raises Unfit()
>>> start(pair, ((0,), (3,)), 1)
raises BadStanding(('free', 3))
"""

TEXTS = (("A5", A5), ("A7", A7), ("A8", A8))


class ExamplesTest(unittest.TestCase):

    def test_all_in_order(self):
        names = {}
        for promise, text in TEXTS:
            with self.subTest(promise=promise):
                run_examples(self, text, names)


if __name__ == "__main__":
    unittest.main()
