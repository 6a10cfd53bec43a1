"""What the tests of several modules share."""

import copy
import doctest
import itertools
import random
import unittest

from enoughcame.errors import Early, Full, Here, NoPerson

FOUR = (((), 0), ((0, 2), 1), ((1, 3), 1), ((), 0))
FIVE = FOUR + (((1, 2, 3), 2),)
# Each of the two waits for the other one.
PAIR = (((1,), 1), ((0,), 1))
# 0 comes, 1 and 2 wait for each other, 3 needs more friends than there are, 4 waits for 3.
MIXED = (((), 0), ((0, 2), 2), ((1,), 1), ((0,), 2), ((3,), 1))
# 1 comes after 0, 2 after 1, and so on.
CHAIN = (((), 0),) + tuple([((person - 1,), 1) for person in range(1, 20)])

OTHER_KINDS = (None, True, False, 0, 1, -1, "", "0", "ab", [], (None,), ((),), [[]], ([],))


def as_lists(value):
    """The same value with a list for every tuple."""
    if isinstance(value, (list, tuple)):
        return [as_lists(part) for part in value]
    return value


def as_tuples(value):
    """The same value with a tuple for every list."""
    if isinstance(value, (list, tuple)):
        return tuple([as_tuples(part) for part in value])
    return value


def list_for_one_tuple(value):
    """All values in which a list stands for exactly one of the tuples, at any depth."""
    if not isinstance(value, tuple):
        return []
    changed = [list(value)]
    for at, part in enumerate(value):
        changed.extend([value[:at] + (new,) + value[at + 1:] for new in list_for_one_tuple(part)])
    return changed


def part_exchanged(value, new):
    """All values in which new stands for exactly one part, the whole value included."""
    changed = [new]
    if isinstance(value, tuple):
        for at, part in enumerate(value):
            changed.extend([value[:at] + (inner,) + value[at + 1:] for inner in part_exchanged(part, new)])
    return changed


def shape(value):
    """The value with the kind of each part, since 1 == True in Python."""
    if isinstance(value, (list, tuple)):
        return type(value), [shape(part) for part in value]
    return type(value), value


def subsets(many):
    """All PEOPLE of a company of that many."""
    return [people for size in range(many + 1) for people in itertools.combinations(range(many), size)]


def random_company(source, many):
    """A company of that many people, some of whom may need more friends than they have."""
    rows = []
    for person in range(many):
        friends = tuple([other for other in range(many) if other != person and source.random() < 0.5])
        rows.append((friends, source.randrange(len(friends) + 2)))
    return tuple(rows)


def random_open_company(source, many):
    """A company of that many people, all of whom can come: at least in one row, drawn first."""
    row = source.sample(range(many), many)
    rows = []
    for person, (friends, _) in enumerate(random_company(source, many)):
        ahead = set(friends) & set(row[:row.index(person)])
        rows.append((friends, source.randrange(len(ahead) + 1)))
    return tuple(rows)


def small_companies():
    """All companies of up to two people, and many of three, with needs up to one more than all friends."""
    for many in range(4):
        entries = [
            [(friends, need) for friends in subsets(many) if person not in friends for need in range(many + 1)]
            for person in range(many)
        ]
        step = 7 if many == 3 else 1
        yield from itertools.islice(itertools.product(*entries), 0, None, step)


def open_companies(seed):
    """Small companies in which everybody can come."""
    source = random.Random(seed)
    return ([company for company in small_companies() if orders_by_trying(company)]
            + [random_open_company(source, source.randrange(4, 6)) for _ in range(40)])


def can_come(company, person, there):
    """Whether enough friends of the person are there."""
    friends, need = company[person]
    return len(set(friends) & set(there)) >= need


def first_misfit(company, row):
    """The index of the first one of the row who cannot come after those before, None if there is none."""
    wrong = [at for at, person in enumerate(row) if not can_come(company, person, row[:at])]
    return min(wrong, default=None)


def fits(company, row):
    """Whether the people of the row can come one after another."""
    return first_misfit(company, row) is None


def orders_by_trying(company):
    """The ascending list of all orders, found by trying every row."""
    return [row for row in itertools.permutations(range(len(company))) if fits(company, row)]


def stuck_by_trying(company):
    """The people who never come, found by letting everybody come."""
    there = []
    while True:
        able = [one for one in range(len(company)) if one not in there and can_come(company, one, there)]
        if not able:
            return tuple([one for one in range(len(company)) if one not in there])
        there.extend(able)


def random_order(source, company):
    """An order of a company in which everybody can come."""
    row = []
    while len(row) < len(company):
        row.append(source.choice([one for one in range(len(company))
                                  if one not in row and can_come(company, one, row)]))
    return tuple(row)


def told(error):
    """How the document writes an error."""
    attributes = ", ".join([f"{name}={value!r}" for name, value in vars(error).items()])
    return f"raises {type(error).__name__}({attributes})"


def shown(source, names):
    """What the document shows below the line of an example."""
    try:
        result = eval(compile(source, "example", "single" if " = " in source else "eval"), names)
    except Exception as error:
        if type(error).__module__ != "enoughcame.errors":
            raise
        return told(error) + "\n"
    return "" if result is None else repr(result) + "\n"


class Model:
    """A company and a row, changed by the words of the document; raises what it says."""

    def __init__(self, company):
        self.entries, self.row = list(company), []

    def twin(self):
        return copy.deepcopy(self)

    def check(self, person):
        if not 0 <= person < len(self.entries):
            raise NoPerson(person)

    def enough(self, person):
        friends, need = self.entries[person]
        return len(set(friends) & set(self.row)) >= need

    def come_all(self, people):
        for person in people:
            self.check(person)
            if person in self.row:
                raise Here(person)
            if not self.enough(person):
                raise Early(person)
            self.row.append(person)
        return len(self.row)

    def come(self, person):
        return self.come_all([person])

    def able(self):
        return [one for one in range(len(self.entries)) if one not in self.row and self.enough(one)]

    def meet(self):
        able = self.able()
        self.row.extend(able)
        return able

    def add_person(self, friends, need):
        for friend in friends:
            self.check(friend)
        if len(self.entries) >= 20:
            raise Full(len(self.entries))
        self.entries.append((tuple(friends), need))
        return len(self.entries) - 1

    def set_need(self, person, need):
        self.check(person)
        if person in self.row:
            raise Here(person)
        before = self.entries[person]
        self.entries[person] = (before[0], need)
        return before[1]


def outcome(target, name, given):
    """What a call returns, or how the document writes its error."""
    try:
        return getattr(target, name)(*given)
    except (NoPerson, Here, Early, Full) as error:
        return told(error)


def random_call(source, many):
    """An operation that may succeed or fail in a company of that many."""
    name = source.choice(["come", "come", "come_all", "meet", "add_person", "set_need", "undo"])
    people = [source.randrange(-1, many + 1) for _ in range(source.randrange(4))]
    given = {
        "come": (source.randrange(-1, many + 1),),
        "come_all": (people,),
        "add_person": (tuple(sorted(set(people))), source.randrange(3)),
        "set_need": (source.randrange(-1, many + 1), source.randrange(3)),
    }
    return name, given.get(name, ())


class SharedTest(unittest.TestCase):
    def assert_same(self, got, expected):
        """Equal, and of the same kind in every part."""
        self.assertEqual(shape(got), shape(expected))

    def assert_raises(self, error, value, function, *given, **named):
        """Raises exactly that error, whose only attribute has the value."""
        with self.assertRaises(error) as caught:
            function(*given, **named)
        self.assertIs(type(caught.exception), error)
        (kept,) = vars(caught.exception).values()
        self.assert_same(kept, value)

    def assert_unchanged(self, function, *given):
        """The call leaves its arguments as they were, whether it returns or raises an error."""
        kept = copy.deepcopy(given)
        shown("function(*given)", dict(function=function, given=given))
        self.assert_same(given, kept)

    def assert_belongs_to_the_caller(self, function, *given):
        """What the caller does to a returned list has no effect on the next call."""
        kept = copy.deepcopy(function(*given))
        result = function(*given)
        self.assertIsInstance(result, list)
        result.append("x")
        result[0] = None
        self.assert_same(function(*given), kept)

    def assert_examples(self, text, many, names):
        """The examples, of which there are so many, hold as they stand in the document."""
        examples = doctest.DocTestParser().get_examples(text)
        self.assertEqual(len(examples), many)
        names = dict(names, four=FOUR, five=FIVE)
        for example in examples:
            with self.subTest(example.source):
                self.assertEqual(shown(example.source.strip(), names), example.want)
