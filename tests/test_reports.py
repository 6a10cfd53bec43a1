"""Point 10 and guarantee (e), with the general rules of points 2 and 3."""

import copy
import itertools
import random
import unittest

from enoughcame.errors import Contradiction
from enoughcame.reports import agree, bounds_of, evidence, shows_evidence, verdict
from support import OTHER_KINDS, SharedTest, as_lists, as_tuples, list_for_one_tuple, part_exchanged, random_company

EXAMPLES = """
    >>> bounds_of(((), (0, 2), (0, 1)), [((0, 2, 1), None), ((0,), 1)])
    [(0, 0), (2, 2), (0, 1)]
    >>> bounds_of(((), (0,)), [((), 1)]), verdict(((), (0,)), [((0, 1), None)], (1, 0))
    ([(0, None), (1, None)], 'open')
    >>> evidence(((), (0,)), [((0, 1), None), ((0,), 1)]), agree(((), (0,)), [((0, 1), None)], (0, 1))
    ((1, 0, 1), True)
    >>> verdict(((), (0,)), [((0, 1), None), ((), 1)], (0, 1))
    'yes'
"""

THREE = ((), (0, 2), (0, 1))
THREE_REPORTS = [((0, 2, 1), None), ((0,), 1)]
TWO = ((), (0,))
# 1 came after 0 alone, and could not come after 0 alone.
AGAINST = [((0, 1), None), ((0,), 1)]
# Each of these people has all the others as friends.
ALL_FRIENDS = ((1, 2, 3), (0, 2, 3), (0, 1, 3), (0, 1, 2))


def is_true(friends, report, needs):
    """Whether the report is true with these needs, told step by step."""
    row, person = report
    there = set()
    for one in row:
        if len(there & set(friends[one])) < needs[one]:
            return False
        there.add(one)
    return person is None or len(there & set(friends[person])) < needs[person]


def all_needs(friends):
    """All needs up to one more than there are people, so that some are above the number of friends."""
    return list(itertools.product(range(len(friends) + 2), repeat=len(friends)))


def agreeing(friends, reports):
    return [needs for needs in all_needs(friends) if all(is_true(friends, report, needs) for report in reports)]


def all_evidence(friends, reports):
    """All EVIDENCE, ascending, as the document defines it."""
    found = []
    for person, i, j in itertools.product(range(len(friends)), range(len(reports)), range(len(reports))):
        if person in reports[i][0] and reports[j][1] == person:
            ahead = itertools.takewhile(lambda one: one != person, reports[i][0])
            if len(set(friends[person]) & set(ahead)) <= len(set(friends[person]) & set(reports[j][0])):
                found.append((person, i, j))
    return found


def random_reports(source, many):
    """Some reports on that many people, true or not."""
    reports = []
    for _ in range(source.randrange(5)):
        row = source.sample(range(many), source.randrange(many + 1))
        person = source.choice([None] + [one for one in range(many) if one not in row])
        reports.append((tuple(row), person))
    return reports


def random_cases():
    """Friends with reports, of which some contradict each other."""
    source = random.Random(10)
    cases = []
    for _ in range(400):
        many = source.randrange(4)
        friends = tuple([entry[0] for entry in random_company(source, many)])
        cases.append((friends, random_reports(source, many)))
    return cases


class Examples(SharedTest):
    def test_as_they_stand_in_the_document(self):
        names = dict(bounds_of=bounds_of, evidence=evidence, agree=agree, verdict=verdict)
        self.assert_examples(EXAMPLES, 4, names)


class BoundsOf(SharedTest):
    def test_no_people(self):
        self.assert_same(bounds_of((), []), [])
        self.assert_same(bounds_of((), [((), None)]), [])
        self.assert_same(bounds_of([], ()), [])

    def test_no_reports(self):
        self.assert_same(bounds_of(THREE, []), [(0, None), (0, None), (0, None)])

    def test_empty_row(self):
        self.assert_same(bounds_of(TWO, [((), None)]), [(0, None), (0, None)])
        self.assert_same(bounds_of(TWO, [((), 0)]), [(1, None), (0, None)])

    def test_person_of_none(self):
        self.assert_same(bounds_of(THREE, [((0, 1), None)]), [(0, 0), (0, 1), (0, None)])

    def test_person_with_a_row(self):
        self.assert_same(bounds_of(THREE, [((0, 1), 2)]), [(0, 0), (0, 1), (3, None)])
        self.assert_same(bounds_of(THREE, [((0,), 2)]), [(0, 0), (0, None), (2, None)])

    def test_others_than_friends_do_not_count(self):
        self.assert_same(bounds_of(((), (), (0,)), [((1, 0, 2), None)]), [(0, 0), (0, 0), (0, 1)])
        self.assert_same(bounds_of(((), (), (0,)), [((0, 1), 2)]), [(0, 0), (0, 0), (2, None)])

    def test_the_strictest_of_several(self):
        reports = [((0, 1, 2, 3), None), ((0, 1, 3), None), ((2,), 3), ((), 3)]
        self.assert_same(bounds_of(ALL_FRIENDS, reports)[3], (2, 2))
        self.assert_same(bounds_of(ALL_FRIENDS, reports[::-1])[3], (2, 2))
        self.assert_same(bounds_of(ALL_FRIENDS, reports), [(0, 0), (0, 1), (0, 0), (2, 2)])

    def test_contradiction(self):
        self.assert_raises(Contradiction, (1, 0, 1), bounds_of, TWO, AGAINST)
        self.assert_raises(Contradiction, (1, 1, 0), bounds_of, TWO, AGAINST[::-1])
        self.assert_raises(Contradiction, (0, 0, 1), bounds_of, ((),), [((0,), None), ((), 0)])

    def test_bounds_are_exact(self):
        for friends, reports in random_cases():
            found = agreeing(friends, reports)
            if not found:
                continue
            for person, (least, most) in enumerate(bounds_of(friends, reports)):
                needs = {needs[person] for needs in found}
                self.assertEqual(min(needs), least)
                self.assertEqual(max(needs), len(friends) + 1 if most is None else most)

    def test_result_belongs_to_the_caller(self):
        first = bounds_of(THREE, THREE_REPORTS)
        first.pop()
        first[0] = None
        self.assert_same(bounds_of(THREE, THREE_REPORTS), [(0, 0), (2, 2), (0, 1)])

    def test_lists_for_tuples(self):
        for friends in list_for_one_tuple(THREE) + [as_lists(THREE)]:
            for reports in (as_lists(THREE_REPORTS), as_tuples(THREE_REPORTS), [((0, 2, 1), None), ([0], 1)]):
                self.assert_same(bounds_of(friends, reports), [(0, 0), (2, 2), (0, 1)])
        self.assert_raises(Contradiction, (1, 0, 1), bounds_of, as_lists(TWO), as_lists(AGAINST))

    def test_by_name(self):
        self.assert_same(bounds_of(reports=THREE_REPORTS, friends=THREE), [(0, 0), (2, 2), (0, 1)])
        self.assert_raises(Contradiction, (1, 0, 1), bounds_of, reports=AGAINST, friends=TWO)


class Evidence(SharedTest):
    def test_none(self):
        for friends, reports in (((), []), ((), [((), None)]), (TWO, []), (TWO, AGAINST[:1]), (TWO, AGAINST[1:]),
                                 (THREE, THREE_REPORTS)):
            self.assertIsNone(evidence(friends, reports))

    def test_equal_counts_contradict(self):
        self.assert_same(evidence(ALL_FRIENDS, [((0, 1, 3), None), ((1, 2), 3)]), (3, 0, 1))

    def test_one_more_friend_does_not_contradict(self):
        self.assertIsNone(evidence(ALL_FRIENDS, [((0, 1, 3), None), ((2,), 3)]))

    def test_the_least_person(self):
        reports = [((1, 0, 2), None), ((1,), 2), ((0, 1, 2), None), ((), 1)]
        self.assert_same(evidence(((), (), ()), reports), (1, 0, 3))

    def test_the_least_reports(self):
        empty = ((), ())
        came, stayed = ((1,), None), ((), 1)
        self.assert_same(evidence(empty, [stayed, stayed, came, came]), (1, 2, 0))
        self.assert_same(evidence(empty, [came, came, stayed, stayed]), (1, 0, 2))
        self.assert_same(evidence(empty, [((), None), stayed, came, stayed, came]), (1, 2, 1))

    def test_report_that_is_no_evidence_stands_before(self):
        reports = [((0, 1, 2, 3), None), ((0, 3), None), ((), 3), ((1,), 3)]
        self.assert_same(evidence(ALL_FRIENDS, reports), (3, 1, 3))

    def test_brute_force(self):
        seen = set()
        for friends, reports in random_cases():
            found = all_evidence(friends, reports)
            expected = found[0] if found else None
            self.assert_same(evidence(friends, reports), expected)
            seen.add(expected is None)
            if found:
                self.assert_raises(Contradiction, expected, bounds_of, friends, reports)
                self.assert_raises(Contradiction, expected, verdict, friends, reports, tuple(range(len(friends))))
        self.assertEqual(seen, {True, False})

    def test_reports_contradict_exactly_if_two_do_for_one_person(self):
        for friends, reports in random_cases():
            self.assertEqual(evidence(friends, reports) is None, bool(agreeing(friends, reports)))

    def test_at_the_bounds(self):
        friends = tuple([tuple([other for other in range(20) if other != person]) for person in range(20)])
        reports = [(tuple(range(20)), None)] * 39 + [(tuple(range(19)), 19)]
        self.assert_same(evidence(friends, reports), (19, 0, 39))
        self.assertIsNone(evidence(friends, reports[:39] + [(tuple(range(18)), 19)]))

    def test_lists_for_tuples(self):
        for friends in (as_lists(TWO), as_tuples(TWO)):
            for reports in (as_lists(AGAINST), as_tuples(AGAINST)):
                self.assert_same(evidence(friends, reports), (1, 0, 1))

    def test_by_name(self):
        self.assert_same(evidence(reports=AGAINST, friends=TWO), (1, 0, 1))


class ShowsEvidence(SharedTest):
    def assert_none(self, friends, reports, *things):
        for thing in things:
            with self.subTest(thing=thing):
                self.assertIs(shows_evidence(friends, reports, thing), False)

    def test_evidence(self):
        self.assertIs(shows_evidence(TWO, AGAINST, (1, 0, 1)), True)

    def test_each_part_changed(self):
        for at in range(3):
            for new in (-3, -2, -1, 0, 1, 2, 3, 10 ** 60, -10 ** 60, True, False, None, "1", (1,), [1], ()):
                thing = (1, 0, 1)[:at] + (new,) + (1, 0, 1)[at + 1:]
                expected = [type(part) for part in thing] == [int] * 3 and thing == (1, 0, 1)
                with self.subTest(thing=thing):
                    self.assertIs(shows_evidence(TWO, AGAINST, thing), expected)

    def test_other_lengths(self):
        self.assert_none(TWO, AGAINST, (), (1,), (1, 0), (1, 0, 1, 0), (1, 0, 1, 1), ((1, 0, 1),))

    def test_other_kinds(self):
        self.assert_none(TWO, AGAINST, *OTHER_KINDS, [1, 0, 1], "101", (True, 0, 1), (1, False, True), (1, False, 1),
                         (1, 0, True), ((((((1, 0, 1),),),),),))
        self.assert_none(TWO, AGAINST, *part_exchanged((1, 0, 1), "1"), *part_exchanged((1, 0, 1), None))

    def test_no_people_and_no_reports(self):
        self.assert_none((), [], (0, 0, 0), (-1, -1, -1), ())
        self.assert_none((), [((), None)], (0, 0, 0), (-1, 0, 0), (None, 0, 0))
        self.assert_none(TWO, [], (1, 0, 1), (0, 0, 0))

    def test_evidence_that_is_not_the_least(self):
        reports = AGAINST + AGAINST
        for thing in ((1, 0, 1), (1, 0, 3), (1, 2, 1), (1, 2, 3)):
            self.assertIs(shows_evidence(TWO, reports, thing), True)

    def test_every_triple(self):
        for friends, reports in random_cases()[:120]:
            found = all_evidence(friends, reports)
            for thing in itertools.product(range(-2, 4), range(-2, 6), range(-2, 6)):
                self.assertIs(shows_evidence(friends, reports, thing), thing in found)

    def test_lists_for_tuples(self):
        self.assertIs(shows_evidence(as_lists(TWO), as_lists(AGAINST), (1, 0, 1)), True)
        self.assertIs(shows_evidence(as_tuples(TWO), as_tuples(AGAINST), (1, 0, 1)), True)
        self.assertIs(shows_evidence(as_lists(TWO), as_lists(AGAINST), [1, 0, 1]), False)

    def test_by_name(self):
        self.assertIs(shows_evidence(thing=(1, 0, 1), reports=AGAINST, friends=TWO), True)


class Agree(SharedTest):
    def assert_none(self, friends, reports, *things):
        for thing in things:
            with self.subTest(thing=thing):
                self.assertIs(agree(friends, reports, thing), False)

    def test_no_people(self):
        self.assertIs(agree((), [], ()), True)
        self.assertIs(agree((), [((), None)], ()), True)
        self.assert_none((), [], (0,), [], None, (None,))

    def test_no_reports(self):
        for thing in all_needs(THREE) + [(100, 101, 10 ** 60)]:
            self.assertIs(agree(THREE, [], thing), True)

    def test_each_part_changed(self):
        for at in range(3):
            for new in (-1, 0, 1, 2, 3, 10 ** 60, -10 ** 60, True, False, None, "0", (0,), [0], ()):
                thing = (0, 2, 1)[:at] + (new,) + (0, 2, 1)[at + 1:]
                numbers = [type(part) for part in thing] == [int] * 3
                with self.subTest(thing=thing):
                    self.assertIs(agree(THREE, THREE_REPORTS, thing), numbers and thing in ((0, 2, 0), (0, 2, 1)))

    def test_needs_below_0(self):
        self.assert_none(TWO, [], (0, -1), (-1, 0))
        self.assert_none(TWO, AGAINST[:1], (0, -1), (-1, 0))

    def test_other_lengths(self):
        self.assert_none(THREE, THREE_REPORTS, (), (0,), (0, 2), (0, 2, 1, 0), ((0, 2, 1),))
        self.assert_none(THREE, [], (), (0, 0), (0, 0, 0, 0))

    def test_other_kinds(self):
        self.assert_none(THREE, THREE_REPORTS, *OTHER_KINDS, [0, 2, 1], "021", (False, 2, True), (0, 2, True),
                         (False, 2, 1), ((((((0, 2, 1),),),),),))
        self.assert_none(((),), [], *OTHER_KINDS, [0])

    def test_reports_that_contradict_each_other(self):
        self.assert_none(TWO, AGAINST, *all_needs(TWO))

    def test_brute_force(self):
        for friends, reports in random_cases():
            found = agreeing(friends, reports)
            for needs in all_needs(friends):
                self.assertIs(agree(friends, reports, needs), needs in found)

    def test_lists_for_tuples(self):
        for friends, reports in ((as_lists(THREE), as_lists(THREE_REPORTS)),
                                 (as_tuples(THREE), as_tuples(THREE_REPORTS))):
            self.assertIs(agree(friends, reports, (0, 2, 1)), True)
            self.assert_none(friends, reports, (0, 1, 1), [0, 2, 1])

    def test_by_name(self):
        self.assertIs(agree(thing=(0, 2, 1), reports=THREE_REPORTS, friends=THREE), True)


class Verdict(SharedTest):
    def test_no_people(self):
        self.assert_same(verdict((), [], ()), "yes")
        self.assert_same(verdict((), [((), None)], ()), "yes")

    def test_no_reports(self):
        self.assert_same(verdict(((),), [], (0,)), "open")
        for row in itertools.permutations(range(3)):
            self.assert_same(verdict(THREE, [], row), "open")

    def test_all_three(self):
        friends = ((), (0,), (0, 1))
        reports = [((0, 1, 2), None), ((), 1)]
        expected = {(0, 1, 2): "yes", (0, 2, 1): "open", (2, 0, 1): "open", (1, 0, 2): "no", (1, 2, 0): "no",
                    (2, 1, 0): "no"}
        for row in itertools.permutations(range(3)):
            with self.subTest(row=row):
                self.assert_same(verdict(friends, reports, row), expected[row])

    def test_needs_above_the_number_of_friends_agree(self):
        self.assert_same(verdict(TWO, [((0,), None)], (0, 1)), "open")
        self.assert_same(verdict(TWO, [((0,), None), ((), 1)], (0, 1)), "open")
        self.assert_same(verdict(TWO, [((0,), 1)], (0, 1)), "no")

    def test_no_goes_before_open(self):
        self.assert_same(verdict(((), ()), [((), 0)], (0, 1)), "no")
        self.assert_same(verdict(((), ()), [((), 0)], (1, 0)), "no")

    def test_contradiction(self):
        for row in ((0, 1), (1, 0)):
            self.assert_raises(Contradiction, (1, 0, 1), verdict, TWO, AGAINST, row)
            self.assert_raises(Contradiction, (1, 0, 1), verdict, as_lists(TWO), as_lists(AGAINST), list(row))

    def test_brute_force(self):
        seen = set()
        for friends, reports in random_cases():
            found = agreeing(friends, reports)
            for row in itertools.permutations(range(len(friends))) if found else ():
                fitting = [needs for needs in found if is_true(friends, (row, None), needs)]
                expected = "no" if not fitting else "yes" if len(fitting) == len(found) else "open"
                self.assert_same(verdict(friends, reports, row), expected)
                seen.add(expected)
        self.assertEqual(seen, {"yes", "no", "open"})

    def test_lists_for_tuples(self):
        for row in ((0, 2, 1), [0, 2, 1]):
            self.assert_same(verdict(as_lists(THREE), as_lists(THREE_REPORTS), row), "yes")
            self.assert_same(verdict(as_tuples(THREE), as_tuples(THREE_REPORTS), row), "yes")

    def test_by_name(self):
        self.assert_same(verdict(row=(0, 1, 2), reports=THREE_REPORTS, friends=THREE), "no")


class Arguments(SharedTest):
    def test_unchanged(self):
        rest = {bounds_of: [], evidence: [], shows_evidence: [[1, 0, 1]], agree: [[0, 2, 1]], verdict: [[0, 2, 1]]}
        for function, more in rest.items():
            given = [as_lists(THREE), as_lists(THREE_REPORTS)] + more
            kept = copy.deepcopy(given)
            function(*given)
            self.assert_same(given, kept)


if __name__ == "__main__":
    unittest.main()
