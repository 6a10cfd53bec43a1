"""Point 6, with the general rules of points 2 and 3."""

import itertools
import random
import unittest

from enoughcame.companies import joined, with_need
from enoughcame.errors import Stuck
from enoughcame.orders import first_order, is_order, last_order, misfit
from support import (CHAIN, FIVE, FOUR, MIXED, OTHER_KINDS, PAIR, SharedTest, as_lists, first_misfit, fits,
                     list_for_one_tuple, open_companies, orders_by_trying, part_exchanged, random_open_company,
                     small_companies, stuck_by_trying)

EXAMPLES = """
    >>> is_order(five, (3, 2, 4, 1, 0)), misfit(five, (3, 2, 4, 1, 0)), is_order(five, (3, 2, 1, 0, 4))
    (True, None, True)
    >>> first_order(five), last_order(five)
    ((0, 1, 2, 3, 4), (3, 2, 4, 1, 0))
    >>> misfit(five, (0, 4, 1, 2, 3))
    1
    >>> first_order(with_need(five, 4, 4))
    raises Stuck(people=(4,))
"""

ONE = (((), 0),)
ONE_STUCK = (((), 1),)


class Examples(SharedTest):
    def test_as_they_stand_in_the_document(self):
        self.assert_examples(EXAMPLES, 4, dict(is_order=is_order, misfit=misfit, first_order=first_order,
                                               last_order=last_order, with_need=with_need))


class IsOrder(SharedTest):
    def assert_orders(self, company, *things):
        for thing in things:
            with self.subTest(company=company, thing=thing):
                self.assertIs(is_order(company, thing), True)

    def assert_none(self, company, *things):
        for thing in things:
            with self.subTest(company=company, thing=thing):
                self.assertIs(is_order(company, thing), False)

    def test_without_people(self):
        self.assert_orders((), ())
        self.assert_none((), *OTHER_KINDS, (0,))

    def test_one_person(self):
        self.assert_orders(ONE, (0,))
        self.assert_none(ONE, *OTHER_KINDS, (), (1,), (-1,), (0, 0), [0], (False,))
        self.assert_none(ONE_STUCK, *OTHER_KINDS, (), (0,), (1,))

    def test_every_row_of_small_companies(self):
        for company in itertools.chain(small_companies(), (FOUR, FIVE, MIXED)):
            for row in itertools.permutations(range(len(company))):
                self.assertIs(is_order(company, row), fits(company, row))

    def test_people_who_are_stuck(self):
        for company in (PAIR, MIXED, with_need(FIVE, 4, 4)):
            self.assert_none(company, *itertools.permutations(range(len(company))))

    def test_person_twice_or_missing(self):
        self.assert_none(FOUR, (0, 1, 2), (0, 1, 3), (3, 0), (0,), ())
        self.assert_none(FOUR, (0, 1, 2, 2), (0, 0, 1, 2), (0, 1, 1, 3), (3, 3, 3, 3))
        self.assert_none(FOUR, (0, 1, 2, 3, 3), (0, 0, 1, 2, 3), (0, 1, 2, 3, 0, 1, 2, 3))

    def test_people_who_are_not_there(self):
        self.assert_none(FOUR, (0, 1, 2, 4), (0, 1, 2, -1), (0, 1, 2, 3, 4), (-1, 0, 1, 2, 3), (0, 1, 2, 10 ** 60),
                         (0, -3, -2, -1), (0, 1, 2, -10 ** 60))

    def test_other_kinds(self):
        self.assert_none(FOUR, *OTHER_KINDS, [0, 1, 2, 3], "0123", ("0", "1", "2", "3"), ((0, 1, 2, 3),))

    def test_other_kinds_for_each_part(self):
        for new in ("0", "", None, True, False, (), (0,), [], [1], (((((1,),),),),)):
            self.assert_none(FOUR, *part_exchanged((0, 1, 2, 3), new))

    def test_whatever_the_bounds(self):
        company = joined(CHAIN, joined(CHAIN, CHAIN))
        self.assert_orders(company, tuple(range(60)))
        self.assert_none(company, tuple(range(59)), tuple(range(61)), tuple(range(59, -1, -1)))

    def test_lists_for_the_company(self):
        for company in list_for_one_tuple(FIVE) + [as_lists(FIVE)]:
            self.assert_orders(company, (3, 2, 4, 1, 0))
            self.assert_none(company, (0, 4, 1, 2, 3), [3, 2, 4, 1, 0])

    def test_by_name(self):
        self.assertIs(is_order(thing=(0, 1, 2, 3), company=FOUR), True)


class MisfitOf(SharedTest):
    def test_at_each_place(self):
        chain = CHAIN[:4]
        for row, place in (((0, 1, 2, 3), None), ((1, 0, 2, 3), 0), ((3, 2, 1, 0), 0), ((0, 2, 1, 3), 1),
                           ((0, 1, 3, 2), 2)):
            self.assert_same(misfit(chain, row), place)
        # The last one needs more friends than there are.
        self.assert_same(misfit(with_need(chain, 3, 2), (0, 1, 2, 3)), 3)

    def test_the_first_of_several(self):
        self.assert_same(misfit(MIXED, (0, 4, 3, 2, 1)), 1)
        self.assert_same(misfit(MIXED, (4, 0, 3, 2, 1)), 0)

    def test_without_people_and_one_person(self):
        self.assert_same(misfit((), ()), None)
        self.assert_same(misfit([], []), None)
        self.assert_same(misfit(ONE, (0,)), None)
        self.assert_same(misfit(ONE_STUCK, (0,)), 0)

    def test_everybody_stuck(self):
        self.assert_same(misfit(PAIR, (0, 1)), 0)
        self.assert_same(misfit(PAIR, (1, 0)), 0)

    def test_every_row_of_small_companies(self):
        seen = set()
        for company in itertools.chain(small_companies(), (FOUR, FIVE, MIXED)):
            for row in itertools.permutations(range(len(company))):
                expected = first_misfit(company, row)
                self.assert_same(misfit(company, row), expected)
                seen.add(expected)
        self.assertLessEqual({None, 0, 1, 2}, seen)

    def test_lists_for_tuples(self):
        for company in list_for_one_tuple(FIVE) + [as_lists(FIVE)]:
            for row, place in (((0, 4, 1, 2, 3), 1), ((3, 2, 4, 1, 0), None)):
                self.assert_same(misfit(company, row), place)
                self.assert_same(misfit(company, list(row)), place)

    def test_by_name(self):
        self.assert_same(misfit(row=(0, 4, 1, 2, 3), company=FIVE), 1)


class FirstAndLast(SharedTest):
    def test_without_people_and_one_person(self):
        for function in (first_order, last_order):
            self.assert_same(function(()), ())
            self.assert_same(function([]), ())
            self.assert_same(function(ONE), (0,))

    def test_against_all_rows(self):
        for company in open_companies(6) + [FOUR, FIVE]:
            orders = orders_by_trying(company)
            self.assert_same(first_order(company), min(orders))
            self.assert_same(last_order(company), max(orders))

    def test_everybody_at_any_time(self):
        company = (((), 0),) * 20
        self.assert_same(first_order(company), tuple(range(20)))
        self.assert_same(last_order(company), tuple(range(19, -1, -1)))

    def test_only_one(self):
        self.assert_same((first_order(CHAIN), last_order(CHAIN)), (tuple(range(20)), tuple(range(20))))
        backwards = tuple([((person + 1,), 1) for person in range(19)]) + (((), 0),)
        self.assert_same(first_order(backwards), tuple(range(19, -1, -1)))
        self.assert_same(last_order(backwards), tuple(range(19, -1, -1)))

    def test_twenty_people(self):
        source = random.Random(20)
        for _ in range(10):
            company = random_open_company(source, 20)
            first, last = first_order(company), last_order(company)
            self.assertTrue(fits(company, first) and fits(company, last))
            self.assertEqual((sorted(first), sorted(last)), (list(range(20)), list(range(20))))
            self.assertLessEqual(first, last)

    def test_larger_than_the_bounds(self):
        self.assert_same(first_order(joined(CHAIN, joined(CHAIN, CHAIN))), tuple(range(60)))

    def test_stuck(self):
        for function in (first_order, last_order):
            self.assert_raises(Stuck, (0,), function, ONE_STUCK)
            self.assert_raises(Stuck, (0, 1), function, PAIR)
            self.assert_raises(Stuck, (1, 2, 3, 4), function, MIXED)
            self.assert_raises(Stuck, (1, 2, 3, 4), function, as_lists(MIXED))
            self.assert_raises(Stuck, tuple(range(20)), function, (((), 100),) * 20)

    def test_stuck_in_small_companies(self):
        for company in small_companies():
            people = stuck_by_trying(company)
            if people:
                self.assertEqual(orders_by_trying(company), [])
                for function in (first_order, last_order):
                    self.assert_raises(Stuck, people, function, company)

    def test_lists_for_tuples(self):
        for company in list_for_one_tuple(FIVE) + [as_lists(FIVE)]:
            self.assert_same(first_order(company), (0, 1, 2, 3, 4))
            self.assert_same(last_order(company), (3, 2, 4, 1, 0))

    def test_by_name(self):
        self.assert_same(first_order(company=FIVE), (0, 1, 2, 3, 4))
        self.assert_same(last_order(company=FIVE), (3, 2, 4, 1, 0))


class Arguments(SharedTest):
    def test_unchanged(self):
        for company in (FIVE, with_need(FIVE, 4, 4)):
            self.assert_unchanged(is_order, as_lists(company), [0, 1, 2, 3, 4])
            self.assert_unchanged(misfit, as_lists(company), [0, 1, 2, 3, 4])
            self.assert_unchanged(first_order, as_lists(company))
            self.assert_unchanged(last_order, as_lists(company))


if __name__ == "__main__":
    unittest.main()
