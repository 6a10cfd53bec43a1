"""Point 5 and guarantee (a), with the general rules of points 2 and 3."""

import copy
import itertools
import random
import unittest

from enoughcame.coming import comes_without, greatest, is_possible, never, next_people, rounds, shows_stuck
from enoughcame.companies import invited, is_people, joined, with_need
from support import (CHAIN, FIVE, FOUR, MIXED, OTHER_KINDS, PAIR, SharedTest, as_lists, fits, list_for_one_tuple,
                     random_company, small_companies, subsets)

EXAMPLES = """
    >>> next_people(five, ()), next_people(five, (0, 3)), next_people(five, (1, 2))
    ([0, 3], [1, 2], [0, 3, 4])
    >>> greatest(five), never(five), is_possible(five, (0, 1)), is_possible(five, (1, 2))
    ((0, 1, 2, 3, 4), (), True, False)
    >>> comes_without(five, (2,)), comes_without(five, (0, 3))
    ((0, 1, 3, 4), ())
    >>> never(with_need(five, 4, 4)), shows_stuck(invited(five, ()), (1, 2)), shows_stuck(with_need(five, 4, 4), (4,))
    ((4,), False, True)
    >>> rounds(five)
    [(0, 3), (1, 2), (4,)]
"""


def random_companies():
    source = random.Random(5)
    return [random_company(source, source.randrange(4, 7)) for _ in range(60)]


def possible_sets(company):
    """All possible PEOPLE, found by trying every row of them."""
    return [people for people in subsets(len(company))
            if any(fits(company, row) for row in itertools.permutations(people))]


def stuck_sets(company):
    return [people for people in subsets(len(company))
            if people and all(len(set(company[one][0]) - set(people)) < company[one][1] for one in people)]


def union(sets):
    return tuple(sorted({person for people in sets for person in people}))


class Examples(SharedTest):
    def test_as_they_stand_in_the_document(self):
        names = dict(next_people=next_people, greatest=greatest, never=never, is_possible=is_possible, rounds=rounds,
                     comes_without=comes_without, shows_stuck=shows_stuck, with_need=with_need, invited=invited)
        self.assert_examples(EXAMPLES, 5, names)


class NextPeople(SharedTest):
    def test_without_people(self):
        self.assert_same(next_people((), ()), [])
        self.assert_same(next_people([], []), [])

    def test_one_person(self):
        self.assert_same(next_people((((), 0),), ()), [0])
        self.assert_same(next_people((((), 0),), (0,)), [])
        self.assert_same(next_people((((), 1),), ()), [])
        self.assert_same(next_people((((), 1),), (0,)), [])

    def test_after_people_who_are_not_possible(self):
        self.assert_same(next_people(PAIR, (0,)), [1])
        self.assert_same(next_people(PAIR, (1,)), [0])
        self.assert_same(next_people(MIXED, (3,)), [0, 4])
        self.assert_same(next_people(MIXED, (0, 2, 3)), [1, 4])

    def test_need_is_met_exactly(self):
        for need in range(6):
            company = with_need(FIVE, 4, need)
            for people in subsets(4):
                with self.subTest(need=need, people=people):
                    self.assertIs(4 in next_people(company, people), len(set(people) & {1, 2, 3}) >= need)

    def test_people_who_are_there_do_not_come_again(self):
        self.assert_same(next_people(FOUR, (0, 1, 2, 3)), [])
        self.assert_same(next_people((((), 0),) * 3, (1,)), [0, 2])

    def test_others_than_friends_do_not_count(self):
        self.assert_same(next_people((((), 0), ((), 0), ((0,), 1)), (1,)), [0])

    def test_every_set_of_many_companies(self):
        for company in itertools.chain(small_companies(), random_companies()):
            for people in subsets(len(company)):
                expected = [one for one, (friends, need) in enumerate(company)
                            if one not in people and len(set(friends) & set(people)) >= need]
                self.assert_same(next_people(company, people), expected)

    def test_result_belongs_to_the_caller(self):
        first = next_people(FIVE, (0, 3))
        first.append(7)
        first[0] = -1
        self.assert_same(next_people(FIVE, (0, 3)), [1, 2])

    def test_lists_for_tuples(self):
        for company in list_for_one_tuple(FIVE) + [as_lists(FIVE)]:
            self.assert_same(next_people(company, (1, 2)), [0, 3, 4])
            self.assert_same(next_people(company, [1, 2]), [0, 3, 4])

    def test_by_name(self):
        self.assert_same(next_people(people=(0, 3), company=FIVE), [1, 2])


class Possible(SharedTest):
    """greatest, never, is_possible and comes_without."""

    def test_without_people(self):
        self.assert_same(greatest(()), ())
        self.assert_same(never(()), ())
        self.assertIs(is_possible((), ()), True)
        self.assert_same(comes_without((), ()), ())

    def test_everybody_can_come(self):
        for company in ((((), 0),), FOUR, FIVE, CHAIN):
            everybody = tuple(range(len(company)))
            self.assert_same((greatest(company), never(company)), (everybody, ()))
            self.assert_same(comes_without(company, everybody), ())
            self.assertIs(is_possible(company, everybody), True)

    def test_all_are_stuck(self):
        for company in ((((), 1),), PAIR, (((1,), 1), ((2,), 1), ((0,), 1)), (((), 100),) * 20):
            everybody = tuple(range(len(company)))
            self.assert_same((greatest(company), never(company)), ((), everybody))
            self.assertIs(is_possible(company, everybody), False)
            self.assertIs(is_possible(company, ()), True)

    def test_some_are_stuck(self):
        self.assert_same((greatest(MIXED), never(MIXED)), ((0,), (1, 2, 3, 4)))
        self.assert_same((greatest(invited(MIXED, (3,))), never(invited(MIXED, (3,)))), ((0, 3, 4), (1, 2)))

    def test_needs_above_the_number_of_friends(self):
        self.assert_same(never(with_need(FOUR, 1, 2)), ())
        for need in (3, 100, 10 ** 60):
            company = with_need(FOUR, 1, need)
            self.assert_same((greatest(company), never(company)), ((0, 2, 3), (1,)))

    def test_without_somebody_in_a_chain(self):
        for person in range(20):
            self.assert_same(comes_without(CHAIN, (person,)), tuple(range(person)))
        self.assert_same(comes_without(CHAIN, (4, 9)), (0, 1, 2, 3))

    def test_without_people_who_are_stuck_anyway(self):
        self.assert_same(comes_without(MIXED, (1, 2)), (0,))
        self.assert_same(comes_without(MIXED, (0,)), ())

    def test_brute_force(self):
        for company in itertools.chain(small_companies(), random_companies()):
            possible = possible_sets(company)
            self.assert_same(greatest(company), union(possible))
            self.assert_same(never(company), tuple(sorted(set(range(len(company))) - set(union(possible)))))
            for people in subsets(len(company)):
                self.assertIs(is_possible(company, people), people in possible)
                self.assert_same(comes_without(company, people), union([one for one in possible
                                                                        if not set(one) & set(people)]))

    def test_larger_than_the_bounds(self):
        company = joined(CHAIN, joined(CHAIN, MIXED))
        self.assert_same(greatest(company), tuple(range(41)))
        self.assert_same(never(company), (41, 42, 43, 44))

    def test_lists_for_tuples(self):
        for company in list_for_one_tuple(FIVE) + [as_lists(FIVE)]:
            self.assert_same(greatest(company), (0, 1, 2, 3, 4))
            self.assert_same(never(company), ())
            for people in ((0, 1), [0, 1]):
                self.assertIs(is_possible(company, people), True)
                self.assert_same(comes_without(company, people), (2, 3, 4))
            self.assertIs(is_possible(company, [1, 2]), False)
        self.assert_same(never(as_lists(MIXED)), (1, 2, 3, 4))

    def test_by_name(self):
        self.assert_same(greatest(company=MIXED), (0,))
        self.assert_same(never(company=MIXED), (1, 2, 3, 4))
        self.assertIs(is_possible(people=(0, 1), company=FIVE), True)
        self.assert_same(comes_without(people=(2,), company=FIVE), (0, 1, 3, 4))


class ShowsStuck(SharedTest):
    def assert_stuck(self, company, *things):
        for thing in things:
            with self.subTest(company=company, thing=thing):
                self.assertIs(shows_stuck(company, thing), True)

    def assert_none(self, company, *things):
        for thing in things:
            with self.subTest(company=company, thing=thing):
                self.assertIs(shows_stuck(company, thing), False)

    def test_sets_that_are_stuck(self):
        self.assert_stuck(PAIR, (0, 1))
        self.assert_stuck(MIXED, (3,), (1, 2), (3, 4), (1, 2, 3), (1, 2, 3, 4))
        self.assert_stuck((((), 1),), (0,))

    def test_the_empty_set(self):
        for company in ((), FOUR, PAIR, MIXED):
            self.assert_none(company, ())

    def test_one_person_is_not_stuck(self):
        self.assert_none(PAIR, (0,), (1,))
        self.assert_none(MIXED, (0, 1, 2), (0, 3), (2, 3), (4,), (1, 2, 4), (0, 1, 2, 3, 4))
        self.assert_none(FOUR, *subsets(4))

    def test_friends_outside_are_counted_exactly(self):
        for need in range(5):
            self.assertIs(shows_stuck(with_need(FIVE, 4, need), (4,)), need > 3)
            self.assertIs(shows_stuck(with_need(with_need(FIVE, 1, 3), 4, need), (1, 4)), need > 2)

    def test_people_who_are_not_there(self):
        self.assert_none(PAIR, (0, 1, 2), (-1, 0, 1), (2,), (-1,), (-2, -1), (10 ** 60,))

    def test_not_ascending_or_twice(self):
        self.assert_none(PAIR, (1, 0), (0, 0, 1), (0, 1, 1))

    def test_other_kinds(self):
        self.assert_none(PAIR, *OTHER_KINDS, [0, 1], (False, True), (0, True), (False, 1), ("0", "1"), (0, None),
                         ((0, 1),), ([0], [1]), ((((((0,),),),),),))
        self.assert_none((((), 1),), *OTHER_KINDS, [0], (False,))
        self.assert_none((), *OTHER_KINDS, (0,))

    def test_every_set_of_many_companies(self):
        for company in itertools.chain(small_companies(), random_companies()):
            stuck = stuck_sets(company)
            for people in subsets(len(company)):
                self.assertIs(shows_stuck(company, people), people in stuck)

    def test_everybody_comes_or_never_is_the_greatest_stuck_set(self):
        for company in itertools.chain(small_companies(), random_companies()):
            people = never(company)
            self.assertIs(is_people(company, people), True)
            self.assertEqual(people, union(stuck_sets(company)))
            self.assertIs(shows_stuck(company, people), greatest(company) != tuple(range(len(company))))

    def test_whatever_the_bounds(self):
        company = (((), 1),) * 60
        self.assert_stuck(company, tuple(range(60)), (59,))
        self.assert_none(company, tuple(range(61)), (60,))

    def test_lists_for_the_company(self):
        for company in list_for_one_tuple(MIXED) + [as_lists(MIXED)]:
            self.assert_stuck(company, (3,), (1, 2, 3, 4))
            self.assert_none(company, (), (4,), [3], [1, 2, 3, 4])

    def test_by_name(self):
        self.assertIs(shows_stuck(thing=(0, 1), company=PAIR), True)


class Rounds(SharedTest):
    def test_nobody_comes(self):
        for company in ((), PAIR, (((), 1),)):
            self.assert_same(rounds(company), [])

    def test_all_at_once(self):
        self.assert_same(rounds((((), 0),) * 3), [(0, 1, 2)])

    def test_until_nobody_can(self):
        self.assert_same(rounds(MIXED), [(0,)])
        self.assert_same(rounds(invited(MIXED, (3,))), [(0, 3), (4,)])
        self.assert_same(rounds(CHAIN), [(person,) for person in range(20)])

    def test_people_of_one_round_do_not_wait_for_each_other(self):
        self.assert_same(rounds((((1,), 1), ((), 0), ((0, 1), 1), ((0, 2), 1))), [(1,), (0, 2), (3,)])

    def test_each_round_in_many_companies(self):
        for company in itertools.chain(small_companies(), random_companies()):
            expected, there = [], []
            while next_people(company, sorted(there)):
                expected.append(tuple(next_people(company, sorted(there))))
                there.extend(expected[-1])
            self.assert_same(rounds(company), expected)
            self.assert_same(tuple(sorted(there)), greatest(company))

    def test_result_belongs_to_the_caller(self):
        first = rounds(FIVE)
        first.pop()
        first[0] = ()
        self.assert_same(rounds(FIVE), [(0, 3), (1, 2), (4,)])

    def test_lists_for_tuples(self):
        for company in list_for_one_tuple(FIVE) + [as_lists(FIVE)]:
            self.assert_same(rounds(company), [(0, 3), (1, 2), (4,)])

    def test_by_name(self):
        self.assert_same(rounds(company=FIVE), [(0, 3), (1, 2), (4,)])


class Arguments(SharedTest):
    def test_unchanged(self):
        for function in (next_people, is_possible, comes_without, shows_stuck):
            company, people = as_lists(MIXED), [1, 2]
            function(company, people)
            self.assert_same((company, people), (as_lists(MIXED), [1, 2]))
        for function in (greatest, never, rounds):
            company = as_lists(MIXED)
            kept = copy.deepcopy(company)
            function(company)
            self.assert_same(company, kept)


if __name__ == "__main__":
    unittest.main()
