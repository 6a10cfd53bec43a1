"""What the tests of several modules share."""

import doctest
import itertools
import unittest

FOUR = (((), 0), ((0, 2), 1), ((1, 3), 1), ((), 0))
FIVE = FOUR + (((1, 2, 3), 2),)

OTHER_KINDS = (None, True, False, 0, 1, -1, "", "0", "ab", [], (None,), ((),), [[]], ([],))


def as_lists(value):
    """The same value with a list for every tuple."""
    if isinstance(value, (list, tuple)):
        return [as_lists(part) for part in value]
    return value


def as_tuples(value):
    """The same value with a tuple for every list."""
    if isinstance(value, (list, tuple)):
        return tuple([as_tuples(part) for part in value])
    return value


def list_for_one_tuple(value):
    """All values in which a list stands for exactly one of the tuples, at any depth."""
    if not isinstance(value, tuple):
        return []
    changed = [list(value)]
    for at, part in enumerate(value):
        changed.extend([value[:at] + (new,) + value[at + 1:] for new in list_for_one_tuple(part)])
    return changed


def part_exchanged(value, new):
    """All values in which new stands for exactly one part, the whole value included."""
    changed = [new]
    if isinstance(value, tuple):
        for at, part in enumerate(value):
            changed.extend([value[:at] + (inner,) + value[at + 1:] for inner in part_exchanged(part, new)])
    return changed


def shape(value):
    """The value with the kind of each part, since 1 == True in Python."""
    if isinstance(value, (list, tuple)):
        return type(value), [shape(part) for part in value]
    return type(value), value


def subsets(many):
    """All PEOPLE of a company of that many."""
    return [people for size in range(many + 1) for people in itertools.combinations(range(many), size)]


def random_company(source, many):
    """A company of that many people, some of whom may need more friends than they have."""
    rows = []
    for person in range(many):
        friends = tuple([other for other in range(many) if other != person and source.random() < 0.5])
        rows.append((friends, source.randrange(len(friends) + 2)))
    return tuple(rows)


def told(error):
    """How the document writes an error."""
    attributes = ", ".join([f"{name}={value!r}" for name, value in vars(error).items()])
    return f"raises {type(error).__name__}({attributes})"


def shown(source, names):
    """What the document shows below the line of an example."""
    try:
        result = eval(compile(source, "example", "single" if " = " in source else "eval"), names)
    except Exception as error:
        if type(error).__module__ != "enoughcame.errors":
            raise
        return told(error) + "\n"
    return "" if result is None else repr(result) + "\n"


class SharedTest(unittest.TestCase):
    def assert_same(self, got, expected):
        """Equal, and of the same kind in every part."""
        self.assertEqual(shape(got), shape(expected))

    def assert_raises(self, error, value, function, *given, **named):
        """Raises exactly that error, whose only attribute has the value."""
        with self.assertRaises(error) as caught:
            function(*given, **named)
        self.assertIs(type(caught.exception), error)
        (kept,) = vars(caught.exception).values()
        self.assert_same(kept, value)

    def assert_examples(self, text, many, names):
        """The examples, of which there are so many, hold as they stand in the document."""
        examples = doctest.DocTestParser().get_examples(text)
        self.assertEqual(len(examples), many)
        names = dict(names, four=FOUR, five=FIVE)
        for example in examples:
            with self.subTest(example.source):
                self.assertEqual(shown(example.source.strip(), names), example.want)
