"""Runs examples as the document gives them: a line behind ">>> ", then what it comes to."""

import guardbooks.errors


def pairs_of(text):
    """The pairs (code, expected) of the examples, expected being None where nothing is told."""
    pairs = []
    for line in text.strip().split("\n"):
        if line.startswith(">>> "):
            pairs.append((line[4:], None))
        elif line:
            code, expected = pairs.pop()
            assert expected is None, line
            pairs.append((code, line))
    return pairs


def run_examples(case, text, names):
    """Runs the examples of text for the test case; names keeps what they set."""
    for code, expected in pairs_of(text):
        with case.subTest(code=code):
            if expected is None:
                exec(code, names)
            elif expected.startswith("raises "):
                assert_raises(case, code, expected[len("raises "):], names)
            else:
                # As text, so that a list is no tuple and True is not 1.
                case.assertEqual(repr(eval(code, names)), expected)


def assert_raises(case, code, expected, names):
    error = eval(expected, dict(vars(guardbooks.errors)))
    with case.assertRaises(guardbooks.errors.GuardError) as caught:
        eval(code, names)
    case.assertIs(type(caught.exception), type(error))
    case.assertEqual(repr(vars(caught.exception)), repr(vars(error)))
