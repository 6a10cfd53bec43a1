"""Point 7 and guarantee (b), with the general rules of points 2 and 3."""

import itertools
import random
import unittest

from enoughcame.companies import joined
from enoughcame.errors import Blocked, Misfit, NoPlace, Stuck
from enoughcame.exchanges import crossed, distance, exchanged, exchanges, plan, shows_plan
from support import (CHAIN, FIVE, FOUR, MIXED, OTHER_KINDS, PAIR, SharedTest, as_lists, fits, list_for_one_tuple,
                     open_companies, orders_by_trying, random_open_company, random_order)

EXAMPLES = """
    >>> exchanges(five, (0, 1, 2, 3, 4)), exchanged(five, (0, 1, 2, 3, 4), 2)
    ([2, 3], (0, 1, 3, 2, 4))
    >>> exchanged(five, (0, 1, 2, 3, 4), 0)
    raises Blocked(pair=(0, 1))
    >>> crossed(four, (0, 1, 2, 3), (3, 0, 1, 2)), distance(four, (0, 1, 2, 3), (3, 2, 1, 0))
    ([(0, 3), (1, 3), (2, 3)], 6)
    >>> shows_plan(four, (0, 1, 2, 3), (3, 0, 1, 2), [2, 1, 0]), len(plan(four, (0, 1, 2, 3), (3, 2, 1, 0)))
    (True, 6)
    >>> distance(four, (0, 1, 2, 3), (1, 0, 2, 3))
    raises Misfit(place=0)
"""

ONE = (((), 0),)
# Nobody needs anybody.
FREE = (((), 0),) * 20
UP, DOWN = tuple(range(20)), tuple(range(19, -1, -1))


def swapped(row, place):
    """The row with the two people at the place and behind it changed."""
    return row[:place] + (row[place + 1], row[place]) + row[place + 2:]


def places_by_trying(company, order):
    return [place for place in range(len(order) - 1) if fits(company, swapped(order, place))]


def pairs_by_trying(one, other):
    """The pairs (a, b), a below b, that stand in different order."""
    ahead = [set(itertools.combinations(row, 2)) for row in (one, other)]
    return sorted([(min(pair), max(pair)) for pair in ahead[0] - ahead[1]])


def distances_by_trying(company, one):
    """How many exchanges lead to each order, found by going on from one order to its neighbours."""
    found, layer = {one: 0}, [one]
    while layer:
        further = []
        for order in layer:
            for place in places_by_trying(company, order):
                if swapped(order, place) not in found:
                    found[swapped(order, place)] = found[order] + 1
                    further.append(swapped(order, place))
        layer = further
    return found


class ExchangesTest(SharedTest):
    def assert_leads(self, company, one, other, places):
        """The places lead from one to other, each order in between being possible."""
        row = one
        for place in places:
            self.assertIn(place, range(len(company) - 1))
            row = swapped(row, place)
            self.assertTrue(fits(company, row))
        self.assertEqual(row, other)

    def assert_plan(self, company, one, other):
        """The plan has the kinds and the length that it should, leads there and is shown."""
        places = plan(company, one, other)
        self.assert_same(places, [int(place) for place in places])
        self.assertEqual(len(places), len(pairs_by_trying(one, other)))
        self.assert_leads(company, one, other, places)
        self.assert_same(distance(company, one, other), len(places))
        self.assertIs(shows_plan(company, one, other, places), True)


class Examples(SharedTest):
    def test_as_they_stand_in_the_document(self):
        names = dict(exchanges=exchanges, exchanged=exchanged, crossed=crossed, distance=distance, plan=plan,
                     shows_plan=shows_plan)
        self.assert_examples(EXAMPLES, 5, names)


class Places(ExchangesTest):
    """exchanges and exchanged."""

    def test_against_trying_each(self):
        for company in open_companies(7) + [FOUR, FIVE]:
            for order in orders_by_trying(company):
                expected = places_by_trying(company, order)
                self.assert_same(exchanges(company, order), expected)
                for place in range(len(company) - 1):
                    if place in expected:
                        self.assert_same(exchanged(company, order, place), swapped(order, place))
                    else:
                        self.assert_raises(Blocked, order[place:place + 2], exchanged, company, order, place)

    def test_without_people_and_one_person(self):
        self.assert_same(exchanges((), ()), [])
        self.assert_same(exchanges([], []), [])
        self.assert_same(exchanges(ONE, (0,)), [])
        for place in (-2, -1, 0, 1):
            self.assert_raises(NoPlace, place, exchanged, (), (), place)
            self.assert_raises(NoPlace, place, exchanged, ONE, (0,), place)

    def test_all_places_and_none(self):
        self.assert_same(exchanges(FREE, DOWN), list(range(19)))
        self.assert_same(exchanges(CHAIN, UP), [])

    def test_no_place(self):
        for place in (-1, -4, -5, -10 ** 60, 4, 5, 10 ** 60):
            self.assert_raises(NoPlace, place, exchanged, FIVE, (0, 1, 2, 3, 4), place)
            self.assert_raises(NoPlace, place, exchanged, as_lists(FIVE), [0, 1, 2, 3, 4], place)

    def test_the_first_and_the_last_place(self):
        self.assert_same(exchanged(FREE, UP, 0), (1, 0) + UP[2:])
        self.assert_same(exchanged(FREE, UP, 18), UP[:18] + (19, 18))
        self.assert_raises(NoPlace, 19, exchanged, FREE, UP, 19)

    def test_blocked_names_the_two_as_they_stand(self):
        self.assert_raises(Blocked, (3, 2), exchanged, FIVE, (3, 2, 1, 0, 4), 0)
        self.assert_raises(Blocked, (3, 2), exchanged, as_lists(FIVE), [3, 2, 1, 0, 4], 0)
        self.assert_raises(Blocked, (18, 19), exchanged, CHAIN, UP, 18)

    def test_results_belong_to_the_caller(self):
        self.assert_belongs_to_the_caller(exchanges, FIVE, (0, 1, 2, 3, 4))

    def test_lists_for_tuples(self):
        for company in list_for_one_tuple(FIVE) + [as_lists(FIVE)]:
            for order in ((0, 1, 2, 3, 4), [0, 1, 2, 3, 4]):
                self.assert_same(exchanges(company, order), [2, 3])
                self.assert_same(exchanged(company, order, 2), (0, 1, 3, 2, 4))

    def test_by_name(self):
        self.assert_same(exchanges(order=(0, 1, 2, 3, 4), company=FIVE), [2, 3])
        self.assert_same(exchanged(place=2, order=(0, 1, 2, 3, 4), company=FIVE), (0, 1, 3, 2, 4))


class Between(ExchangesTest):
    """crossed, distance and plan."""

    def test_without_people_and_one_person(self):
        for company, order in (((), ()), (ONE, (0,))):
            self.assert_same(crossed(company, order, order), [])
            self.assert_same(distance(company, order, order), 0)
            self.assert_same(plan(company, order, order), [])

    def test_the_same_order(self):
        for company, order in ((FIVE, (3, 2, 4, 1, 0)), (FREE, DOWN), (CHAIN, UP)):
            self.assert_same((crossed(company, order, order), distance(company, order, order)), ([], 0))
            self.assert_same((plan(company, order, order), plan(company, list(order), order)), ([], []))

    def test_every_pair_of_orders(self):
        for company in open_companies(70)[::3] + [FOUR, FIVE]:
            for one in orders_by_trying(company)[::2]:
                fewest = distances_by_trying(company, one)
                self.assertEqual(sorted(fewest), orders_by_trying(company))
                for other, many in fewest.items():
                    self.assert_same(crossed(company, one, other), pairs_by_trying(one, other))
                    self.assert_same(distance(company, one, other), many)
                    self.assert_plan(company, one, other)

    def test_all_pairs(self):
        self.assert_same(crossed(FREE, UP, DOWN), list(itertools.combinations(range(20), 2)))
        self.assert_same(distance(FREE, UP, DOWN), 190)
        self.assert_plan(FREE, UP, DOWN)
        self.assert_plan(FREE, DOWN, UP)

    def test_twenty_people(self):
        source = random.Random(7)
        for _ in range(10):
            company = random_open_company(source, 20)
            one, other = random_order(source, company), random_order(source, company)
            self.assert_same(crossed(company, one, other), pairs_by_trying(one, other))
            self.assert_plan(company, one, other)
            self.assert_plan(company, other, one)

    def test_larger_than_the_bounds(self):
        company, other = joined(CHAIN, CHAIN), tuple(range(20, 40)) + UP
        self.assert_same(distance(company, tuple(range(40)), other), 400)
        self.assert_plan(company, tuple(range(40)), other)

    def test_the_same_plan_again(self):
        for one, other in itertools.product(orders_by_trying(FIVE), repeat=2):
            self.assert_same(plan(FIVE, one, other), plan(as_lists(FIVE), list(one), list(other)))

    def test_results_belong_to_the_caller(self):
        for function in (crossed, plan):
            self.assert_belongs_to_the_caller(function, FOUR, (0, 1, 2, 3), (3, 2, 1, 0))

    def test_lists_for_tuples(self):
        for company in list_for_one_tuple(FOUR) + [as_lists(FOUR)]:
            for one, other in itertools.product(((0, 1, 2, 3), [0, 1, 2, 3]), ((3, 0, 1, 2), [3, 0, 1, 2])):
                self.assert_same(crossed(company, one, other), [(0, 3), (1, 3), (2, 3)])
                self.assert_same(distance(company, one, other), 3)
                self.assert_same(plan(company, one, other), [2, 1, 0])

    def test_by_name(self):
        named = dict(other=(3, 0, 1, 2), one=(0, 1, 2, 3), company=FOUR)
        self.assert_same(crossed(**named), [(0, 3), (1, 3), (2, 3)])
        self.assert_same(distance(**named), 3)
        self.assert_same(plan(**named), [2, 1, 0])


class ShowsPlan(ExchangesTest):
    def assert_shown(self, company, one, other, *things):
        for thing in things:
            with self.subTest(one=one, other=other, thing=thing):
                self.assertIs(shows_plan(company, one, other, thing), True)

    def assert_none(self, company, one, other, *things):
        for thing in things:
            with self.subTest(one=one, other=other, thing=thing):
                self.assertIs(shows_plan(company, one, other, thing), False)

    def test_every_short_list(self):
        one = (0, 1, 2, 3)
        for length in range(5):
            for places in itertools.product(range(-1, 4), repeat=length):
                row = one
                for place in places:
                    row = swapped(row, place) if row and place in places_by_trying(FOUR, row) else None
                for other in orders_by_trying(FOUR):
                    self.assertIs(shows_plan(FOUR, one, other, list(places)), row == other)

    def test_longer_lists(self):
        self.assert_shown(FOUR, (0, 1, 2, 3), (3, 0, 1, 2), [2, 2, 2, 1, 0], [2, 1, 0, 0, 0], [2, 1, 1, 1, 0])
        self.assert_shown(FREE, UP, UP, [], [0, 0], [18] * 4, [0, 1, 0, 1, 0, 1])

    def test_lists_that_lead_elsewhere(self):
        self.assert_none(FOUR, (0, 1, 2, 3), (3, 0, 1, 2), [], [2], [2, 1], [2, 1, 0, 0], [2, 1, 0, 1])
        self.assert_none(FREE, UP, DOWN, plan(FREE, UP, DOWN)[:-1], plan(FREE, UP, DOWN) + [0])

    def test_a_blocked_place_in_the_middle(self):
        # Without the check of each step, all of these would lead back.
        self.assert_none(FOUR, (0, 1, 2, 3), (0, 1, 2, 3), [0, 0], [2, 0, 0, 2], [2, 2, 0, 0])
        self.assert_none(CHAIN, UP, UP, [5, 5], [0, 0], [18, 18])

    def test_the_empty_list(self):
        self.assert_shown((), (), (), [])
        self.assert_shown(ONE, (0,), (0,), [])
        self.assert_shown(FIVE, (3, 2, 4, 1, 0), (3, 2, 4, 1, 0), [])
        self.assert_none(FIVE, (3, 2, 4, 1, 0), (3, 2, 1, 4, 0), [])

    def test_places_that_are_none(self):
        self.assert_none((), (), (), [0], [-1])
        self.assert_none(ONE, (0,), (0,), [0], [-1], [0, 0])
        self.assert_none(FREE, UP, UP, [19, 19], [-1, -1], [20], [-20, -20], [10 ** 60], [0, 0, 19], [-10 ** 60])

    def test_many_places(self):
        self.assert_shown(FREE, UP, UP, [7] * 400, [0, 18] * 200, [3] * 1000)
        self.assert_none(FREE, UP, UP, [7] * 399, [7] * 399 + [19], [7] * 401)
        self.assert_shown(FREE, UP, swapped(UP, 7), [7] * 399)

    def test_a_tuple_is_no_list(self):
        self.assert_none(FOUR, (0, 1, 2, 3), (3, 0, 1, 2), (2, 1, 0))
        self.assert_none(FOUR, (0, 1, 2, 3), (0, 1, 2, 3), ())

    def test_other_kinds(self):
        kinds = [thing for thing in OTHER_KINDS if thing != []]
        self.assert_none(FREE, UP, UP, *kinds, [True, True], [False, False], [0, False], ["0", "0"], [None], [[]],
                         [[0], [0]], [(0, 0)], ["00"], [[[[[[0]]]]]], [0, 0, None])
        self.assert_none((), (), (), *kinds)
        self.assert_none(FREE, UP, swapped(UP, 1), [True])

    def test_lists_for_tuples(self):
        for company in list_for_one_tuple(FOUR) + [as_lists(FOUR)]:
            for one, other in itertools.product(((0, 1, 2, 3), [0, 1, 2, 3]), ((3, 0, 1, 2), [3, 0, 1, 2])):
                self.assert_shown(company, one, other, [2, 1, 0])
                self.assert_none(company, one, other, (2, 1, 0), [2, 1])

    def test_by_name(self):
        self.assertIs(shows_plan(thing=[2, 1, 0], other=(3, 0, 1, 2), one=(0, 1, 2, 3), company=FOUR), True)


class Errors(SharedTest):
    def test_stuck_comes_first(self):
        for given, people in (((PAIR, (0, 1)), (0, 1)), ((MIXED, (4, 3, 2, 1, 0)), (1, 2, 3, 4)),
                              ((as_lists(MIXED), [0, 1, 2, 3, 4]), (1, 2, 3, 4))):
            company, row = given
            self.assert_raises(Stuck, people, exchanges, company, row)
            for place in (-1, 0, 9):
                self.assert_raises(Stuck, people, exchanged, company, row, place)
            for function in (crossed, distance, plan):
                self.assert_raises(Stuck, people, function, company, row, row)
            for thing in ([], [9], None):
                self.assert_raises(Stuck, people, shows_plan, company, row, row, thing)

    def test_misfit_of_one_order(self):
        for row, place in (((1, 0, 2, 3, 4), 0), ((0, 4, 1, 2, 3), 1), ((0, 3, 4, 1, 2), 2)):
            for order in (row, list(row)):
                self.assert_raises(Misfit, place, exchanges, FIVE, order)
                for at in (-1, 0, 3, 4):
                    self.assert_raises(Misfit, place, exchanged, FIVE, order, at)

    def test_misfit_of_one_then_of_other(self):
        fine, first, second = (0, 1, 2, 3, 4), (1, 0, 2, 3, 4), (0, 3, 4, 1, 2)
        for one, other, place in ((fine, first, 0), (fine, second, 2), (first, fine, 0), (second, fine, 2),
                                  (first, second, 0), (second, first, 2), (second, second, 2)):
            for function in (crossed, distance, plan):
                self.assert_raises(Misfit, place, function, FIVE, one, other)
                self.assert_raises(Misfit, place, function, as_lists(FIVE), list(one), list(other))
            for thing in ([], [0], (), None, "x"):
                self.assert_raises(Misfit, place, shows_plan, FIVE, one, other, thing)

    def test_misfit_at_the_last_place(self):
        # 19 comes after 18 alone.
        company = FREE[:19] + (((18,), 1),)
        row = UP[:17] + (17, 19, 18)
        self.assert_raises(Misfit, 18, exchanges, company, row)
        self.assert_raises(Misfit, 18, distance, company, UP, row)


class Arguments(SharedTest):
    def test_unchanged(self):
        for one in ([0, 1, 2, 3, 4], [1, 0, 2, 3, 4]):
            company, other = as_lists(FIVE), [3, 2, 4, 1, 0]
            self.assert_unchanged(exchanges, company, one)
            for place in (0, 2, 9):
                self.assert_unchanged(exchanged, company, one, place)
            for function in (crossed, distance, plan):
                self.assert_unchanged(function, company, one, other)
            self.assert_unchanged(shows_plan, company, one, other, [2, 3])

    def test_the_plan_as_a_thing_is_unchanged(self):
        places = plan(FOUR, (0, 1, 2, 3), (3, 2, 1, 0))
        self.assert_unchanged(shows_plan, FOUR, (0, 1, 2, 3), (3, 2, 1, 0), places)


if __name__ == "__main__":
    unittest.main()
