"""Point 4, with the general rules of points 2 and 3."""

import copy
import itertools
import unittest

from enoughcame.companies import invited, is_company, is_people, joined, with_need
from enoughcame.errors import NoPerson
from support import FIVE, FOUR, OTHER_KINDS, SharedTest, as_lists, list_for_one_tuple, part_exchanged

EXAMPLES = """
    >>> is_company(((), 0)), is_company((((), 0),)), is_company((((0,), 1),)), is_people(four, (0, 2))
    (False, True, False, True)
    >>> with_need(four, 1, 2)
    (((), 0), ((0, 2), 2), ((1, 3), 1), ((), 0))
    >>> invited(four, (2,)), joined((((), 0),), (((1,), 1), ((), 0)))
    ((((), 0), ((0, 2), 1), ((1, 3), 0), ((), 0)), (((), 0), ((2,), 1), ((), 0)))
"""


class CompanyTest(SharedTest):
    def assert_no_person(self, missing, function, *given, **named):
        self.assert_raises(NoPerson, missing, function, *given, **named)


class Examples(SharedTest):
    def test_as_they_stand_in_the_document(self):
        names = dict(is_company=is_company, is_people=is_people, with_need=with_need, invited=invited, joined=joined)
        self.assert_examples(EXAMPLES, 3, names)


class IsCompany(CompanyTest):
    def assert_companies(self, *things):
        for thing in things:
            with self.subTest(thing=thing):
                self.assertIs(is_company(thing), True)

    def assert_none(self, *things):
        for thing in things:
            with self.subTest(thing=thing):
                self.assertIs(is_company(thing), False)

    def test_companies(self):
        self.assert_companies((), (((), 0),), (((), 7),), (((1,), 1), ((0,), 1)), FOUR, FIVE)

    def test_whatever_the_bounds(self):
        self.assert_companies((((), 101),), (((), 10 ** 60),), (((1,), 10 ** 60), ((), 0)))
        many = tuple([(tuple([friend for friend in range(60) if friend != person]), 200) for person in range(60)])
        self.assert_companies(many)
        self.assert_none(many[:59])

    def test_list_for_a_tuple_at_each_depth(self):
        for company in ((), (((), 0),), FOUR, FIVE):
            self.assert_none(*list_for_one_tuple(company), as_lists(company))

    def test_bool_for_a_number(self):
        self.assert_none((((), False),), (((), True),), (((1,), 1), ((False,), 1)), (((True,), 1), ((), 0)),
                         (((), 0), ((), 0), ((0, True), 1)), (((1,), True), ((0,), 1)))

    def test_need_below_0(self):
        self.assert_none((((), -1),), (((), 0), ((0,), -1)), (((), -10 ** 60),))

    def test_person_in_their_own_list(self):
        self.assert_none((((0,), 0),), (((), 0), ((0, 1), 1)), (((0, 1), 1), ((), 0)))

    def test_friend_who_is_not_there(self):
        self.assert_none((((1,), 0),), (((2,), 1), ((0,), 1)), (((1, 2), 1), ((0,), 1)), (((10 ** 60,), 1), ((), 0)))

    def test_friend_below_0(self):
        self.assert_none((((-1,), 0),), (((), 0), ((-1,), 1)), (((), 0), ((-1, 0), 1)), (((), 0), ((-2,), 1)))

    def test_friends_not_ascending_or_twice(self):
        self.assert_none((((2, 1), 1), ((), 0), ((), 0)), (((1, 1), 1), ((), 0), ((), 0)),
                         (((1, 2, 1), 1), ((), 0), ((), 0)), (((1, 2, 2), 1), ((), 0), ((), 0)))

    def test_pair_of_another_length(self):
        self.assert_none(((),), (((),),), ((0,),), (((), 0, 0),), (((), 0, ()),), (((), 0), ((),)),
                         (((), 0), ((0,), 1, 1)), ((((), 0),),))

    def test_pair_the_wrong_way_round(self):
        self.assert_none(((0, ()),), ((1, (1,)), ((), 0)))

    def test_wrong_entry_at_each_place(self):
        for at in range(4):
            self.assert_none(FOUR[:at] + (((), -1),) + FOUR[at + 1:], FOUR[:at] + (None,) + FOUR[at + 1:])

    def test_other_kinds_for_each_part(self):
        for new in ("0", "", None, True, False, (None,), ((),), [], [0], (((((1,),),),),)):
            self.assert_none(*part_exchanged(FOUR, new))

    def test_other_kinds(self):
        self.assert_none(*OTHER_KINDS)

    def test_every_friends_tuple_of_a_small_company(self):
        for friends in itertools.product(range(-1, 4), repeat=2):
            thing = (((), 0), (friends, 1), ((), 0))
            with self.subTest(thing=thing):
                self.assertIs(is_company(thing), friends == (0, 2))

    def test_by_name(self):
        self.assertIs(is_company(thing=FOUR), True)

    def test_argument_unchanged(self):
        thing = as_lists(FIVE)
        is_company(thing)
        self.assertEqual(thing, as_lists(FIVE))


class IsPeople(CompanyTest):
    def assert_people(self, company, *things):
        for thing in things:
            with self.subTest(company=company, thing=thing):
                self.assertIs(is_people(company, thing), True)

    def assert_none(self, company, *things):
        for thing in things:
            with self.subTest(company=company, thing=thing):
                self.assertIs(is_people(company, thing), False)

    def test_company_without_people(self):
        self.assert_people((), ())
        self.assert_none((), (0,), (-1,), [])

    def test_company_of_one(self):
        self.assert_people((((), 3),), (), (0,))
        self.assert_none((((), 3),), (1,), (0, 0), (0, 1), (-1,), (False,))

    def test_every_set_of_a_company(self):
        for many in range(5):
            self.assert_people(FOUR, *itertools.combinations(range(4), many))

    def test_every_tuple_of_up_to_three(self):
        for many in range(4):
            for thing in itertools.product(range(-1, 5), repeat=many):
                expected = set(thing) <= set(range(4)) and list(thing) == sorted(set(thing))
                with self.subTest(thing=thing):
                    self.assertIs(is_people(FOUR, thing), expected)

    def test_lists_for_the_company(self):
        for company in list_for_one_tuple(FOUR) + [as_lists(FOUR)]:
            self.assert_people(company, (), (0, 2), (0, 1, 2, 3))
            self.assert_none(company, (4,), [0, 2])

    def test_a_list_is_no_people(self):
        self.assert_none(FOUR, [], [0], [0, 2])

    def test_bool_for_a_number(self):
        self.assert_none(FOUR, (False,), (True,), (0, True), (True, 2), (False, 2))

    def test_other_kinds(self):
        self.assert_none(FOUR, *OTHER_KINDS, ("0",), (0, "1"), (0, None), ((0,),), (0, (1,)), (0, [1]),
                         ((((((0,),),),),),), (10 ** 60,), (-10 ** 60,))

    def test_whatever_the_bounds(self):
        company = (((), 0),) * 60
        self.assert_people(company, tuple(range(60)), (59,))
        self.assert_none(company, tuple(range(61)), (60,))

    def test_by_name(self):
        self.assertIs(is_people(thing=(0, 2), company=FOUR), True)

    def test_arguments_unchanged(self):
        company, thing = as_lists(FOUR), [0, 2]
        is_people(company, thing)
        self.assertEqual((company, thing), (as_lists(FOUR), [0, 2]))


class WithNeed(CompanyTest):
    def test_each_person(self):
        for person in range(5):
            expected = tuple([(friends, 9 if at == person else need) for at, (friends, need) in enumerate(FIVE)])
            with self.subTest(person=person):
                self.assert_same(with_need(FIVE, person, 9), expected)

    def test_needs(self):
        for need in (0, 1, 100, 10 ** 60):
            with self.subTest(need=need):
                self.assert_same(with_need(FOUR, 3, need), FOUR[:3] + (((), need),))

    def test_the_need_it_has_already(self):
        self.assert_same(with_need(FOUR, 1, 1), FOUR)

    def test_no_person(self):
        for company in ((), (((), 0),), FOUR):
            many = len(company)
            for person in (-1, -many, -many - 1, -10 ** 60, many, many + 1, 10 ** 60):
                with self.subTest(company=company, person=person):
                    self.assert_no_person(person, with_need, company, person, 0)
                    self.assert_no_person(person, with_need, as_lists(company), person, 0)

    def test_lists_for_tuples(self):
        for company in list_for_one_tuple(FOUR) + [as_lists(FOUR)]:
            with self.subTest(company=company):
                self.assert_same(with_need(company, 1, 2), (((), 0), ((0, 2), 2), ((1, 3), 1), ((), 0)))

    def test_by_name(self):
        self.assert_same(with_need(need=5, company=FOUR, person=0), (((), 5),) + FOUR[1:])
        self.assert_no_person(4, with_need, need=5, company=FOUR, person=4)

    def test_arguments_unchanged(self):
        company = as_lists(FOUR)
        with_need(company, 1, 2)
        self.assert_no_person(4, with_need, company, 4, 2)
        self.assert_same(company, as_lists(FOUR))


class Invited(CompanyTest):
    def test_every_set(self):
        company = tuple([(friends, need + 1) for friends, need in FIVE])
        for many in range(6):
            for people in itertools.combinations(range(5), many):
                expected = tuple([(friends, 0 if at in people else need)
                                  for at, (friends, need) in enumerate(company)])
                with self.subTest(people=people):
                    self.assert_same(invited(company, people), expected)

    def test_no_people_at_all(self):
        self.assert_same(invited(FOUR, ()), FOUR)
        self.assert_same(invited((), ()), ())
        self.assert_same(invited([], []), ())

    def test_no_person(self):
        for people, first in (((4,), 4), ((-1,), -1), ((-4,), -4), ((-10 ** 60,), -10 ** 60), ((10 ** 60,), 10 ** 60)):
            with self.subTest(people=people):
                self.assert_no_person(first, invited, FOUR, people)
        self.assert_no_person(0, invited, (), (0,))
        self.assert_no_person(-1, invited, (), (-1, 0))

    def test_the_first_such_person(self):
        for people, first in (((4, 5), 4), ((0, 3, 4, 9), 4), ((-2, -1, 0), -2), ((-1, 4), -1), ((-3, 2, 7), -3),
                              ((1, 6, 7), 6)):
            with self.subTest(people=people):
                self.assert_no_person(first, invited, FOUR, people)
                self.assert_no_person(first, invited, as_lists(FOUR), list(people))

    def test_lists_for_tuples(self):
        expected = (((), 0), ((0, 2), 1), ((1, 3), 0), ((), 0))
        for company in list_for_one_tuple(FOUR) + [as_lists(FOUR)]:
            with self.subTest(company=company):
                self.assert_same(invited(company, (2,)), expected)
                self.assert_same(invited(company, [2]), expected)

    def test_by_name(self):
        self.assert_same(invited(people=(1, 2), company=FOUR), (((), 0), ((0, 2), 0), ((1, 3), 0), ((), 0)))
        self.assert_no_person(4, invited, people=(1, 4), company=FOUR)

    def test_arguments_unchanged(self):
        company, people, wrong = as_lists(FOUR), [1, 2], [1, 4]
        invited(company, people)
        self.assert_no_person(4, invited, company, wrong)
        self.assert_same((company, people, wrong), (as_lists(FOUR), [1, 2], [1, 4]))


class Joined(CompanyTest):
    def test_without_people(self):
        self.assert_same(joined((), ()), ())
        self.assert_same(joined(FOUR, ()), FOUR)
        self.assert_same(joined((), FOUR), FOUR)

    def test_without_people_as_lists(self):
        self.assert_same(joined([], []), ())
        self.assert_same(joined(as_lists(FOUR), []), FOUR)
        self.assert_same(joined([], as_lists(FOUR)), FOUR)

    def test_friends_of_the_other_move(self):
        self.assert_same(joined(FOUR, FIVE), FOUR + (
            ((), 0), ((4, 6), 1), ((5, 7), 1), ((), 0), ((5, 6, 7), 2)))
        self.assert_same(joined((((), 3),), FOUR), (((), 3), ((), 0), ((1, 3), 1), ((2, 4), 1), ((), 0)))
        self.assert_same(joined(FOUR, (((), 3),)), FOUR + (((), 3),))

    def test_needs_stay(self):
        self.assert_same(joined((((), 10 ** 60),), (((), 50), ((0,), 1))), (((), 10 ** 60), ((), 50), ((1,), 1)))

    def test_results_are_passed_in_again(self):
        result = FOUR
        for _ in range(4):
            result = joined(result, result)
        self.assertIs(is_company(result), True)
        self.assertEqual(len(result), 64)
        self.assert_same(result[61], ((60, 62), 1))

    def test_lists_for_tuples(self):
        expected = joined(FOUR, FIVE)
        for one in list_for_one_tuple(FOUR) + [as_lists(FOUR), FOUR]:
            for other in list_for_one_tuple(FIVE) + [as_lists(FIVE)]:
                with self.subTest(one=one, other=other):
                    self.assert_same(joined(one, other), expected)

    def test_by_name(self):
        self.assert_same(joined(other=(((), 1),), one=FOUR), FOUR + (((), 1),))

    def test_arguments_unchanged(self):
        one, other = as_lists(FOUR), as_lists(FIVE)
        kept = copy.deepcopy((one, other))
        joined(one, other)
        self.assert_same((one, other), kept)


if __name__ == "__main__":
    unittest.main()
