"""Point 9 and guarantee (d), with the general rules of points 2 and 3."""

import fractions
import itertools
import math
import unittest

from enoughcame.companies import joined, with_need
from enoughcame.errors import Misfit, NoNumber, NoPerson, Stuck, TooMany
from enoughcame.most import MOST, MOST_PEOPLE
from enoughcame.small import (all_orders, chance_before, chances_of, count_orders, earliest_place, number_of,
                              order_at)
from support import (CHAIN, FIVE, FOUR, MIXED, PAIR, SharedTest, as_lists, list_for_one_tuple, open_companies,
                     orders_by_trying)

EXAMPLES = """
    >>> count_orders(four), count_orders(five), order_at(five, 17), number_of(five, (0, 1, 2, 3, 4))
    (8, 18, (3, 2, 4, 1, 0), 0)
    >>> all_orders(four)[2:4], chance_before(four, 0, 2), chances_of(four, 0)
    ([(0, 3, 1, 2), (0, 3, 2, 1)], (3, 4), [(1, 2), (1, 4), (1, 8), (1, 8)])
    >>> earliest_place(five, 4), earliest_place(five, 1)
    (2, 1)
"""

ONE = (((), 0),)
# Nobody needs anybody.
FREE = (((), 0),) * 12
UP, DOWN = tuple(range(12)), tuple(range(11, -1, -1))
# Chains of 3 and 3 people, 20 orders; after both of them chains of 2 and 4 people, 15 orders.
THREE_HUNDRED = joined(CHAIN[:3], CHAIN[:3]) + (((2, 5), 2), ((6,), 1), ((2, 5), 2), ((8,), 1), ((9,), 1), ((10,), 1))
# Of this company all rows can be tried.
ONE_MORE = (((2, 3, 4), 2), ((0, 5), 0), ((1, 3, 4), 0), ((1, 2, 6), 3), ((0, 1, 3), 0), ((0, 6), 0), ((0, 2, 3), 1))


def companies():
    return open_companies(9) + [FOUR, FIVE, with_need(FOUR, 1, 2), CHAIN[:5], FREE[:4]]


def fraction(part, whole):
    """The pair in lowest terms."""
    value = fractions.Fraction(part, whole)
    return value.numerator, value.denominator


def calls(company):
    """A call of each function, with arguments that fit if everybody can come at any time."""
    row = tuple(range(len(company)))
    return [(count_orders, ()), (order_at, (0,)), (number_of, (row,)), (all_orders, ()), (chance_before, (0, 1)),
            (chances_of, (0,)), (earliest_place, (0,))]


class Examples(SharedTest):
    def test_as_they_stand_in_the_document(self):
        names = dict(count_orders=count_orders, order_at=order_at, number_of=number_of, all_orders=all_orders,
                     chance_before=chance_before, chances_of=chances_of, earliest_place=earliest_place)
        self.assert_examples(EXAMPLES, 3, names)

    def test_the_limits(self):
        self.assert_same((MOST, MOST_PEOPLE), (300, 12))


class Numbers(SharedTest):
    """count_orders, order_at and number_of."""

    def test_without_people_and_one_person(self):
        for company, order in (((), ()), ([], ()), (ONE, (0,))):
            self.assert_same((count_orders(company), order_at(company, 0), number_of(company, order)), (1, order, 0))
            self.assert_raises(NoNumber, 1, order_at, company, 1)

    def test_against_all_orders(self):
        for company in companies():
            orders = orders_by_trying(company)
            self.assert_same(count_orders(company), len(orders))
            for number, order in enumerate(orders):
                self.assert_same(order_at(company, number), order)
                self.assert_same(number_of(company, order), number)

    def test_twelve_people_at_any_time(self):
        self.assert_same(count_orders(FREE), 479001600)
        self.assert_same((order_at(FREE, 0), order_at(FREE, 479001599)), (UP, DOWN))
        self.assert_same((number_of(FREE, UP), number_of(FREE, DOWN)), (0, 479001599))
        for number in (1, 2, 39916800, 39916799, 123456789, 400000001):
            row, left, rest = (), list(range(12)), number
            for many in range(11, -1, -1):
                at, rest = divmod(rest, math.factorial(many))
                row = row + (left.pop(at),)
            self.assert_same((order_at(FREE, number), number_of(FREE, row)), (row, number))

    def test_chains(self):
        self.assert_same((count_orders(CHAIN[:12]), order_at(CHAIN[:12], 0)), (1, UP))
        self.assert_same(count_orders(joined(CHAIN[:6], CHAIN[:6])), math.comb(12, 6))
        self.assert_same(count_orders(joined(CHAIN[:4], joined(CHAIN[:4], CHAIN[:4]))), 34650)

    def test_no_number(self):
        for company, many in (((), 1), (ONE, 1), (FOUR, 8), (FIVE, 18), (FREE, 479001600)):
            for number in (-1, -many, -10 ** 60, many, many + 1, 10 ** 60):
                self.assert_raises(NoNumber, number, order_at, company, number)
                self.assert_raises(NoNumber, number, order_at, as_lists(company), number)

    def test_misfit(self):
        for row, place in (((1, 0, 2, 3, 4), 0), ((0, 4, 1, 2, 3), 1), ((0, 3, 4, 1, 2), 2)):
            self.assert_raises(Misfit, place, number_of, FIVE, row)
            self.assert_raises(Misfit, place, number_of, as_lists(FIVE), list(row))
        self.assert_raises(Misfit, 10, number_of, CHAIN[:12], UP[:10] + (11, 10))

    def test_lists_for_tuples(self):
        for company in list_for_one_tuple(FIVE) + [as_lists(FIVE)]:
            self.assert_same((count_orders(company), order_at(company, 17)), (18, (3, 2, 4, 1, 0)))
            for order in ((3, 2, 4, 1, 0), [3, 2, 4, 1, 0]):
                self.assert_same(number_of(company, order), 17)

    def test_by_name(self):
        self.assert_same(count_orders(company=FIVE), 18)
        self.assert_same(order_at(number=17, company=FIVE), (3, 2, 4, 1, 0))
        self.assert_same(number_of(order=(3, 2, 4, 1, 0), company=FIVE), 17)
        self.assert_raises(NoNumber, 18, order_at, number=18, company=FIVE)


class AllOrders(SharedTest):
    def test_without_people_and_one_person(self):
        self.assert_same((all_orders(()), all_orders([]), all_orders(ONE)), ([()], [()], [(0,)]))

    def test_against_all_orders(self):
        for company in companies():
            self.assert_same(all_orders(company), orders_by_trying(company))

    def test_three_hundred(self):
        self.assert_same(count_orders(THREE_HUNDRED), 300)
        orders = all_orders(THREE_HUNDRED)
        self.assertEqual(orders, sorted(set(orders)))
        self.assert_same(orders, [order_at(THREE_HUNDRED, number) for number in range(300)])

    def test_more_than_three_hundred(self):
        self.assertEqual(len(orders_by_trying(ONE_MORE)), 301)
        self.assert_raises(TooMany, 301, all_orders, ONE_MORE)
        self.assert_raises(TooMany, 301, all_orders, as_lists(ONE_MORE))
        self.assert_raises(TooMany, 720, all_orders, FREE[:6])
        self.assert_raises(TooMany, 479001600, all_orders, FREE)

    def test_a_chain_of_twelve(self):
        self.assert_same(all_orders(CHAIN[:12]), [UP])

    def test_result_belongs_to_the_caller(self):
        self.assert_belongs_to_the_caller(all_orders, FOUR)

    def test_lists_for_tuples(self):
        for company in list_for_one_tuple(FOUR) + [as_lists(FOUR)]:
            self.assert_same(all_orders(company), orders_by_trying(FOUR))

    def test_by_name(self):
        self.assert_same(all_orders(company=FOUR), orders_by_trying(FOUR))


class Chances(SharedTest):
    """chance_before, chances_of and earliest_place."""

    def test_against_all_orders(self):
        for company in companies():
            orders = orders_by_trying(company)
            people = range(len(company))
            for one, other in itertools.permutations(people, 2):
                ahead = len([order for order in orders if order.index(one) < order.index(other)])
                self.assert_same(chance_before(company, one, other), fraction(ahead, len(orders)))
            for person in people:
                places = [order.index(person) for order in orders]
                self.assert_same(chances_of(company, person),
                                 [fraction(places.count(place), len(orders)) for place in people])
                self.assert_same(earliest_place(company, person), min(places))

    def test_one_person(self):
        self.assert_same((chances_of(ONE, 0), earliest_place(ONE, 0)), ([(1, 1)], 0))

    def test_twelve_people_at_any_time(self):
        for person in (0, 5, 11):
            self.assert_same(chances_of(FREE, person), [(1, 12)] * 12)
            self.assert_same(earliest_place(FREE, person), 0)
            self.assert_same(chance_before(FREE, person, (person + 1) % 12), (1, 2))

    def test_a_chain_of_twelve(self):
        for person in (0, 5, 11):
            self.assert_same(chances_of(CHAIN[:12], person), [(int(place == person), 1) for place in range(12)])
            self.assert_same(earliest_place(CHAIN[:12], person), person)
        self.assert_same((chance_before(CHAIN[:12], 3, 4), chance_before(CHAIN[:12], 4, 3)), ((1, 1), (0, 1)))

    def test_the_earliest_place_takes_the_shortest_way(self):
        # 5 comes after 4, or after 0 and 3, who need nobody; 4 comes after 1 and 2, and 2 after 1.
        company = (((), 0), ((), 0), ((1,), 1), ((), 0), ((1, 2), 2), ((0, 3, 4), 2), ((5,), 1))
        self.assert_same([earliest_place(company, person) for person in range(7)], [0, 0, 1, 0, 2, 2, 3])

    def test_no_person(self):
        for company in ((), ONE, FIVE, FREE):
            many = len(company)
            for person in (-1, -many - 1, -10 ** 60, many, many + 1, 10 ** 60):
                for function in (chances_of, earliest_place):
                    self.assert_raises(NoPerson, person, function, company, person)
                    self.assert_raises(NoPerson, person, function, as_lists(company), person)

    def test_no_person_of_one_before_that_of_other(self):
        for one, other, person in ((5, 0, 5), (0, 5, 5), (-1, 5, -1), (5, -1, 5), (6, 5, 6), (5, 6, 5), (4, -1, -1),
                                   (-10 ** 60, 10 ** 60, -10 ** 60), (0, -5, -5)):
            self.assert_raises(NoPerson, person, chance_before, FIVE, one, other)
        self.assert_raises(NoPerson, 0, chance_before, (), 0, 1)
        self.assert_raises(NoPerson, 1, chance_before, ONE, 0, 1)

    def test_result_belongs_to_the_caller(self):
        self.assert_belongs_to_the_caller(chances_of, FOUR, 0)

    def test_lists_for_tuples(self):
        for company in list_for_one_tuple(FOUR) + [as_lists(FOUR)]:
            self.assert_same(chance_before(company, 0, 2), (3, 4))
            self.assert_same(chances_of(company, 0), [(1, 2), (1, 4), (1, 8), (1, 8)])
            self.assert_same(earliest_place(company, 2), 1)

    def test_by_name(self):
        self.assert_same(chance_before(other=2, one=0, company=FOUR), (3, 4))
        self.assert_same(chances_of(person=0, company=FOUR), [(1, 2), (1, 4), (1, 8), (1, 8)])
        self.assert_same(earliest_place(person=2, company=FOUR), 1)
        self.assert_raises(NoPerson, 4, chance_before, other=4, one=0, company=FOUR)


class Errors(SharedTest):
    def test_stuck_comes_first(self):
        stuck = joined(CHAIN[:13], PAIR)
        for company, people in ((PAIR, (0, 1)), (MIXED, (1, 2, 3, 4)), (as_lists(MIXED), (1, 2, 3, 4)),
                                (stuck, (13, 14)), ((((), 1),) * 20, tuple(range(20)))):
            row = tuple(range(len(company)))
            for function, given in calls(company) + [
                    (order_at, (-1,)), (number_of, (row[::-1],)), (chance_before, (-1, 99)), (chances_of, (99,)),
                    (earliest_place, (-1,))]:
                self.assert_raises(Stuck, people, function, company, *given)

    def test_then_too_many_people(self):
        for many in (13, 14, 20):
            row = tuple(range(many))
            for company in (CHAIN[:many], (((), 0),) * many, as_lists(CHAIN[:many])):
                for function, given in calls(company) + [
                        (order_at, (-1,)), (order_at, (10 ** 60,)), (number_of, (row[::-1],)),
                        (chance_before, (-1, 99)), (chance_before, (0, 99)), (chances_of, (many,)),
                        (earliest_place, (-1,))]:
                    self.assert_raises(TooMany, many, function, company, *given)

    def test_twelve_people_are_not_too_many(self):
        for function, given in calls(CHAIN[:12]):
            function(CHAIN[:12], *given)

    def test_each_answer_is_that_of_its_own_arguments(self):
        # The same people with other needs, and the other way round.
        for company in (FOUR, FREE[:4], CHAIN[:4], FREE[:4], FOUR):
            orders = orders_by_trying(company)
            self.assert_same((count_orders(company), all_orders(company)), (len(orders), orders))
            self.assert_same((order_at(company, 0), number_of(company, orders[-1])), (orders[0], len(orders) - 1))
            self.assert_same(earliest_place(company, 2), min([order.index(2) for order in orders]))


class Arguments(SharedTest):
    def test_unchanged(self):
        for company in (FOUR, FREE, MIXED, CHAIN):
            for function, given in calls(company):
                self.assert_unchanged(function, as_lists(company), *as_lists(given))


if __name__ == "__main__":
    unittest.main()
