"""Point 8 and guarantee (c), with the general rules of points 2 and 3."""

import itertools
import unittest

from enoughcame.before import earlier_people, free_pairs, later_people, latest_place, must_before
from enoughcame.companies import joined, with_need
from enoughcame.errors import NoPerson, Stuck
from support import (CHAIN, FIVE, FOUR, MIXED, PAIR, SharedTest, as_lists, list_for_one_tuple, open_companies,
                     orders_by_trying)

EXAMPLES = """
    >>> must_before(four), must_before(with_need(four, 1, 2))
    ([], [(0, 1), (2, 1), (3, 1), (3, 2)])
    >>> free_pairs(with_need(four, 1, 2)), earlier_people(with_need(four, 1, 2), 1)
    ([(0, 2), (0, 3)], (0, 2, 3))
    >>> latest_place(five, 0), latest_place(with_need(four, 1, 2), 2), latest_place(with_need(four, 1, 2), 3)
    (4, 2, 1)
    >>> earlier_people(four, 4)
    raises NoPerson(person=4)
"""

OF_COMPANY = (must_before, free_pairs)
OF_PERSON = (earlier_people, later_people, latest_place)

# 1 comes after 0, 2 and 3; 2 comes after 3.
TIGHT = with_need(FOUR, 1, 2)
FREE = (((), 0),) * 20


def companies():
    return open_companies(8) + [FOUR, FIVE, TIGHT, CHAIN[:5], (((), 0),) * 4]


def befores(company):
    """The pairs (a, b) such that a is before b in some order, and those such that it is so in every order."""
    found = [set(itertools.combinations(order, 2)) for order in orders_by_trying(company)]
    return set.union(*found), set.intersection(*found)


class Examples(SharedTest):
    def test_as_they_stand_in_the_document(self):
        names = dict(must_before=must_before, free_pairs=free_pairs, earlier_people=earlier_people,
                     latest_place=latest_place, with_need=with_need)
        self.assert_examples(EXAMPLES, 4, names)


class Pairs(SharedTest):
    """must_before and free_pairs."""

    def test_without_people_and_one_person(self):
        for function in OF_COMPANY:
            self.assert_same(function(()), [])
            self.assert_same(function([]), [])
            self.assert_same(function((((), 0),)), [])

    def test_against_all_orders(self):
        for company in companies():
            some, every = befores(company)
            self.assert_same(must_before(company), sorted(every))
            self.assert_same(free_pairs(company), sorted([(a, b) for a, b in some if a < b and (b, a) in some]))

    def test_twenty_people(self):
        pairs = list(itertools.combinations(range(20), 2))
        self.assert_same((must_before(CHAIN), free_pairs(CHAIN)), (pairs, []))
        self.assert_same((must_before(FREE), free_pairs(FREE)), ([], pairs))

    def test_two_chains_side_by_side(self):
        company = joined(CHAIN[:10], CHAIN[:10])
        apart = list(itertools.product(range(10), range(10, 20)))
        self.assert_same(free_pairs(company), apart)
        self.assert_same(must_before(company), sorted(set(itertools.combinations(range(20), 2)) - set(apart)))

    def test_larger_than_the_bounds(self):
        self.assert_same(len(must_before(joined(CHAIN, CHAIN))), 380)
        self.assert_same(len(free_pairs(joined(CHAIN, CHAIN))), 400)

    def test_results_belong_to_the_caller(self):
        for function in OF_COMPANY:
            self.assert_belongs_to_the_caller(function, TIGHT)

    def test_lists_for_tuples(self):
        for company in list_for_one_tuple(TIGHT) + [as_lists(TIGHT)]:
            self.assert_same(must_before(company), [(0, 1), (2, 1), (3, 1), (3, 2)])
            self.assert_same(free_pairs(company), [(0, 2), (0, 3)])

    def test_by_name(self):
        self.assert_same(must_before(company=TIGHT), [(0, 1), (2, 1), (3, 1), (3, 2)])
        self.assert_same(free_pairs(company=TIGHT), [(0, 2), (0, 3)])


class OnePerson(SharedTest):
    """earlier_people, later_people and latest_place."""

    def test_one_person(self):
        self.assert_same([function((((), 0),), 0) for function in OF_PERSON], [(), (), 0])

    def test_against_all_orders(self):
        for company in companies():
            orders, (_, every) = orders_by_trying(company), befores(company)
            for person in range(len(company)):
                self.assert_same(earlier_people(company, person), tuple(sorted([a for a, b in every if b == person])))
                self.assert_same(later_people(company, person), tuple(sorted([b for a, b in every if a == person])))
                self.assert_same(latest_place(company, person), max([order.index(person) for order in orders]))

    def test_twenty_people(self):
        for person in range(20):
            self.assert_same([function(CHAIN, person) for function in OF_PERSON],
                             [tuple(range(person)), tuple(range(person + 1, 20)), person])
            self.assert_same([function(FREE, person) for function in OF_PERSON], [(), (), 19])

    def test_two_chains_side_by_side(self):
        company = joined(CHAIN[:12], CHAIN[:8])
        self.assert_same([function(company, 3) for function in OF_PERSON], [(0, 1, 2), tuple(range(4, 12)), 11])
        self.assert_same([function(company, 14) for function in OF_PERSON], [(12, 13), tuple(range(15, 20)), 14])

    def test_one_of_several_is_enough(self):
        # 2 comes after 0 or 1, and 3 after 2.
        company = (((), 0), ((), 0), ((0, 1), 1), ((2,), 1))
        self.assert_same([earlier_people(company, person) for person in range(4)], [(), (), (), (2,)])
        self.assert_same([later_people(company, person) for person in range(4)], [(), (), (3,), ()])
        self.assert_same([latest_place(company, person) for person in range(4)], [3, 3, 2, 3])

    def test_no_person(self):
        for function in OF_PERSON:
            for company in ((), (((), 0),), FIVE, FREE):
                many = len(company)
                for person in (-1, -many, -many - 1, -10 ** 60, many, many + 1, 10 ** 60):
                    if person not in range(many):
                        self.assert_raises(NoPerson, person, function, company, person)
                        self.assert_raises(NoPerson, person, function, as_lists(company), person)

    def test_lists_for_tuples(self):
        for company in list_for_one_tuple(TIGHT) + [as_lists(TIGHT)]:
            self.assert_same([function(company, 2) for function in OF_PERSON], [(3,), (1,), 2])

    def test_by_name(self):
        self.assert_same([function(person=2, company=TIGHT) for function in OF_PERSON], [(3,), (1,), 2])
        for function in OF_PERSON:
            self.assert_raises(NoPerson, 4, function, person=4, company=TIGHT)


class Errors(SharedTest):
    def test_stuck_comes_first(self):
        for company, people in ((PAIR, (0, 1)), (MIXED, (1, 2, 3, 4)), (as_lists(MIXED), (1, 2, 3, 4)),
                                ((((), 1),), (0,)), ((((), 100),) * 20, tuple(range(20)))):
            for function in OF_COMPANY:
                self.assert_raises(Stuck, people, function, company)
            for function in OF_PERSON:
                for person in (0, len(company) - 1, -1, len(company), 10 ** 60):
                    self.assert_raises(Stuck, people, function, company, person)


class Arguments(SharedTest):
    def test_unchanged(self):
        for company in (FIVE, TIGHT, MIXED):
            for function in OF_COMPANY:
                self.assert_unchanged(function, as_lists(company))
            for function in OF_PERSON:
                for person in (1, 9):
                    self.assert_unchanged(function, as_lists(company), person)


if __name__ == "__main__":
    unittest.main()
