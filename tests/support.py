"""What the tests share: odd values, and calls that are made in every way."""

import copy
import time
import unittest

from guardbooks.errors import BadHeap, GuardError, Refused


def nested(depth, around):
    """An empty tuple, list or dict with as many more of its kind around it as depth tells."""
    value = around([])
    for _ in range(depth):
        value = around([value]) if around is not dict else {"in": value}
    return value


PAIR = ((1, None), (None,), ())
STANDING = (PAIR + ((),), (1, "white", "black", "free"), ((0, 1), (None,)), (True, False))
BOOK = (
    (((), ("again", "old"), ()), (("new",), (), ("old",))),
    ((False, True, False), (False, False, True)), ("grey", "white"), True, False)

# Of every kind that may be handed in as "any value"; each test adds those that look like the right thing.
ODD_VALUES = [
    None, True, False, 0, 1, -1, 41, 10 ** 399, -(10 ** 399), 10 ** 400 - 1,
    "", "\n", " ", "form", "white", "last", "x" * 20000, "\n" * 20000, "a\n" * 10000,
    (), (None,), (True,), (False,), (0,), ("white",), ((),), ([],), ({},), ((None,),), ((True,),),
    (0,) * 2, (0,) * 3, (0,) * 4, (0,) * 5, ((),) * 4, ((),) * 5, ((),) * 41, (None,) * 4000, (((),) * 40,) * 97,
    [], [None], [()], [[]], [0, 1], ["last"], list(STANDING), list(BOOK), [None] * 4000,
    {}, {None: None}, {0: ()}, {1: 1, True: 2}, {"": []}, {(0, (1,)): {(): 0}}, {k: k for k in range(2000)},
    nested(20, tuple), nested(20, list), nested(20, dict),
    STANDING, STANDING[:3], STANDING + (None,), BOOK, BOOK[:4], BOOK + (True,),
    BadHeap("form"), Refused(STANDING), GuardError("words"),
]


def told(value):
    """The value as text, so that True and 1, a tuple and a list are told apart; an error by class and fields."""
    if isinstance(value, GuardError):
        return f"{type(value).__name__}: {vars(value)!r} {value.args!r}"
    return repr(value)


def outcome(function, *by_place, **by_name):
    """What a call comes to: ("value", value), or (class, fields) of the error that it raises."""
    try:
        return ("value", function(*by_place, **by_name))
    except GuardError as error:
        return (type(error), vars(error))


class GuardCase(unittest.TestCase):
    """Tests that make each call by place, by names, and again, and see that nothing handed in is changed."""

    maxDiff = None

    def outcome_of(self, function, **named):
        before = told_all(named)
        copied = copied_all(named)
        first = outcome(function, *named.values())
        for other in (
                outcome(function, **named), outcome(function, *named.values()),
                outcome(function, **dict(reversed(list(named.items())))), outcome(function, **copied)):
            self.assertEqual(told(other), told(first))
        self.assertEqual(told_all(named), before)
        return first

    def value_of(self, function, **named):
        kind, value = self.outcome_of(function, **named)
        self.assertEqual(kind, "value", f"raised {value!r}")
        return value

    def assert_told(self, expected, function, **named):
        """The call returns what is expected, of just these kinds: no list for a tuple, no 1 for True."""
        self.assertEqual(told(self.value_of(function, **named)), told(expected))

    def assert_raised(self, error, fields, function, **named):
        """The call raises an error of just this class, with just these fields."""
        self.assertEqual(told(self.outcome_of(function, **named)), told((error, fields)))


def told_all(named):
    return {name: told(value) for name, value in named.items()}


def copied_all(named):
    return {name: copy.deepcopy(value) for name, value in named.items()}


class Quickly:
    """A with block that fails if it takes longer than some seconds, far more than it should ever need."""

    def __init__(self, seconds):
        self.seconds = seconds

    def __enter__(self):
        self.begun = time.perf_counter()
        return self

    def __exit__(self, kind, value, trace):
        if kind is None:
            taken = time.perf_counter() - self.begun
            if taken > self.seconds:
                raise AssertionError(f"took {taken:.2f} seconds, not {self.seconds} at most")
        return False
