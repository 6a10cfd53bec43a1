"""Point 11, with the general rules of points 2 and 3."""

import random
import unittest

from enoughcame.companies import joined, with_need
from enoughcame.errors import NoInvitation, TooMany
from enoughcame.invitations import fewest_invited, first_invitation, is_invitation, spare
from support import (CHAIN, FIVE, FOUR, MIXED, PAIR, SharedTest, as_lists, list_for_one_tuple, random_company,
                     small_companies, stuck_by_trying, subsets)

EXAMPLES = """
    >>> is_invitation((((1,), 1), ((0,), 1)), (0,)), fewest_invited(five), first_invitation(with_need(five, 4, 4))
    (True, 0, (4,))
    >>> spare(with_need(five, 4, 4), (2, 4))
    [2]
    >>> spare(with_need(five, 4, 4), (2,))
    raises NoInvitation(people=(4,))
"""


def ring(many):
    """Each one waits for the next one."""
    return tuple([(((person + 1) % many,), 1) for person in range(many)])


def stuck_after(company, people):
    """The people who never come if these are invited."""
    return stuck_by_trying(tuple([(friends, 0 if person in people else need)
                                  for person, (friends, need) in enumerate(company)]))


def companies():
    """Companies small enough to try all sets."""
    source = random.Random(11)
    return (list(small_companies()) + [FOUR, FIVE, PAIR, MIXED, ring(3), ring(5), joined(ring(2), ring(3))]
            + [random_company(source, source.randrange(4, 7)) for _ in range(60)])


class Examples(SharedTest):
    def test_as_they_stand_in_the_document(self):
        names = dict(is_invitation=is_invitation, fewest_invited=fewest_invited, first_invitation=first_invitation,
                     spare=spare, with_need=with_need)
        self.assert_examples(EXAMPLES, 3, names)


class IsInvitation(SharedTest):
    def test_nobody(self):
        self.assertIs(is_invitation((), ()), True)
        self.assertIs(is_invitation([], []), True)
        self.assertIs(is_invitation(FIVE, ()), True)
        self.assertIs(is_invitation(CHAIN, ()), True)
        self.assertIs(is_invitation(PAIR, ()), False)
        self.assertIs(is_invitation((((), 1),), ()), False)

    def test_everybody(self):
        for company in (PAIR, MIXED, (((), 100),) * 20):
            self.assertIs(is_invitation(company, tuple(range(len(company)))), True)

    def test_against_letting_people_come(self):
        for company in companies():
            for people in subsets(len(company)):
                self.assertIs(is_invitation(company, people), stuck_after(company, people) == ())

    def test_twenty_people(self):
        source = random.Random(110)
        seen = set()
        for _ in range(60):
            company = random_company(source, 20)
            people = tuple(sorted(source.sample(range(20), source.randrange(20))))
            expected = stuck_after(company, people) == ()
            self.assertIs(is_invitation(company, people), expected)
            seen.add(expected)
        self.assertEqual(seen, {True, False})

    def test_lists_for_tuples(self):
        for company in list_for_one_tuple(PAIR) + [as_lists(PAIR)]:
            for people, expected in (((), False), ((0,), True), ((1,), True), ((0, 1), True)):
                self.assertIs(is_invitation(company, people), expected)
                self.assertIs(is_invitation(company, list(people)), expected)

    def test_by_name(self):
        self.assertIs(is_invitation(people=(0,), company=PAIR), True)


class Fewest(SharedTest):
    """fewest_invited and first_invitation."""

    def assert_first(self, company, people):
        with self.subTest(company=company):
            self.assert_same(first_invitation(company), people)
            self.assert_same(fewest_invited(company), len(people))

    def test_nobody(self):
        for company in ((), [], (((), 0),), FOUR, FIVE, CHAIN[:12], (((), 0),) * 12):
            self.assert_first(company, ())

    def test_rings(self):
        for many in range(2, 13):
            self.assert_first(ring(many), (0,))
        self.assert_first(joined(ring(4), joined(ring(5), ring(3))), (0, 4, 9))

    def test_chains_that_do_not_begin(self):
        for many in range(1, 13):
            self.assert_first(with_need(CHAIN[:many], 0, 1), (0,))
        self.assert_first(joined(with_need(CHAIN[:5], 0, 1), with_need(CHAIN[:7], 0, 3)), (0, 5))

    def test_needs_above_the_number_of_friends(self):
        self.assert_first(MIXED, (1, 3))
        self.assert_first((((), 100),) * 12, tuple(range(12)))
        self.assert_first(with_need(FIVE, 4, 100), (4,))

    def test_the_first_of_several(self):
        # Everybody has the three others as friends.
        for need, people in ((1, (0,)), (2, (0, 1)), (3, (0, 1, 2)), (4, (0, 1, 2, 3))):
            self.assert_first(tuple([(tuple([other for other in range(4) if other != person]), need)
                                     for person in range(4)]), people)
        # 2 alone brings everybody, 0 and 1 together do so too.
        self.assert_first((((2,), 1), ((2,), 1), ((0, 1), 2)), (2,))

    def test_against_all_sets(self):
        for company in companies():
            found = [people for people in subsets(len(company)) if stuck_after(company, people) == ()]
            self.assert_first(company, min(found, key=lambda people: (len(people), people)))

    def test_twelve_people(self):
        source = random.Random(12)
        sizes = set()
        for _ in range(6):
            company = random_company(source, 12)
            found = next(people for people in subsets(12) if stuck_after(company, people) == ())
            self.assert_first(company, found)
            sizes.add(len(found))
        self.assertGreater(len(sizes), 1)

    def test_thirteen_people(self):
        for many in (13, 14, 20):
            for company in ((((), 0),) * many, ring(many), CHAIN[:many], [[[], 100]] * many):
                self.assert_raises(TooMany, many, fewest_invited, company)
                self.assert_raises(TooMany, many, first_invitation, company)

    def test_lists_for_tuples(self):
        for company in list_for_one_tuple(MIXED) + [as_lists(MIXED)]:
            self.assert_first(company, (1, 3))

    def test_by_name(self):
        self.assert_same(first_invitation(company=MIXED), (1, 3))
        self.assert_same(fewest_invited(company=MIXED), 2)
        self.assert_raises(TooMany, 13, fewest_invited, company=CHAIN[:13])
        self.assert_raises(TooMany, 13, first_invitation, company=CHAIN[:13])


class Spare(SharedTest):
    def test_none(self):
        for company, people in (((), ()), (FIVE, ()), (PAIR, (0,)), (MIXED, (1, 3)), ((((), 1),), (0,)),
                                ((((), 1),) * 20, tuple(range(20)))):
            self.assert_same(spare(company, people), [])

    def test_some(self):
        self.assert_same(spare(MIXED, (0, 1, 3, 4)), [0, 4])
        self.assert_same(spare(MIXED, (0, 1, 2, 3, 4)), [0, 1, 2, 4])

    def test_all(self):
        self.assert_same(spare(PAIR, (0, 1)), [0, 1])
        self.assert_same(spare(FIVE, (0, 2, 4)), [0, 2, 4])
        self.assert_same(spare(CHAIN, tuple(range(20))), list(range(20)))

    def test_each_alone_but_not_all_together(self):
        self.assert_same(spare(ring(20), (3, 9, 15)), [3, 9, 15])
        self.assertIs(is_invitation(ring(20), ()), False)

    def test_every_set_of_small_companies(self):
        for company in companies()[::2]:
            for people in subsets(len(company)):
                stuck = stuck_after(company, people)
                if stuck:
                    self.assert_raises(NoInvitation, stuck, spare, company, people)
                else:
                    self.assert_same(spare(company, people), [
                        person for person in people if stuck_after(company, set(people) - {person}) == ()])

    def test_no_invitation(self):
        self.assert_raises(NoInvitation, (0, 1), spare, PAIR, ())
        self.assert_raises(NoInvitation, (3, 4), spare, MIXED, (0, 2))
        self.assert_raises(NoInvitation, (3, 4), spare, as_lists(MIXED), [0, 2])
        self.assert_raises(NoInvitation, tuple(range(19)), spare, (((), 1),) * 20, (19,))

    def test_more_than_twelve_people(self):
        for many in (13, 20):
            self.assert_same(spare(ring(many), (many - 1,)), [])
            self.assertIs(is_invitation(ring(many), (many - 1,)), True)

    def test_result_belongs_to_the_caller(self):
        self.assert_belongs_to_the_caller(spare, PAIR, (0, 1))

    def test_lists_for_tuples(self):
        for company in list_for_one_tuple(MIXED) + [as_lists(MIXED)]:
            for people in ((0, 1, 3, 4), [0, 1, 3, 4]):
                self.assert_same(spare(company, people), [0, 4])

    def test_by_name(self):
        self.assert_same(spare(people=(0, 1, 3), company=MIXED), [0])
        self.assert_raises(NoInvitation, (3, 4), spare, people=(0, 2), company=MIXED)


class Arguments(SharedTest):
    def test_unchanged(self):
        for people in subsets(5):
            for function in (is_invitation, spare):
                self.assert_unchanged(function, as_lists(MIXED), list(people))
        for company in (MIXED, CHAIN):
            for function in (fewest_invited, first_invitation):
                self.assert_unchanged(function, as_lists(company))


if __name__ == "__main__":
    unittest.main()
