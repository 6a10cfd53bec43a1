"""Points 12 and 13 and guarantee (f), with the general rules of points 2 and 3."""

import random
import unittest

from enoughcame.companies import is_company
from enoughcame.errors import Early, Full, Here, NoOperation, NoPerson
from enoughcame.gathering import Gathering
from support import (FIVE, FOUR, Model, SharedTest, as_lists, list_for_one_tuple, outcome, random_call,
                     random_company)

EXAMPLES = """
    >>> g = Gathering(five)
    >>> g.come(3), g.meet(), g.came(), g.next_people()
    (1, [0, 2], (3, 0, 2), [1, 4])
    >>> g.come(3)
    raises Here(person=3)
    >>> g.add_person((1, 4), 2), g.set_need(1, 3), g.will_never(), repr(g)
    (5, 1, (1, 5), 'Gathering(3 of 6 people)')
    >>> g.come_all([4, 5])
    raises Early(person=5)
    >>> g.undo(), g.undo(), g.come_all([4, 1]), g.waiting(), g.operations()
    (True, True, 5, [], 3)
"""

METHODS = ("come", "come_all", "meet", "add_person", "set_need", "undo", "company", "came", "waiting", "next_people",
           "will_never", "operations", "as_of", "twin", "log", "__init__", "__eq__", "__len__", "__repr__")

# Nobody needs anybody.
FREE = (((), 0),) * 3


def answers(gathering):
    """All that the queries answer, the log left out."""
    return (gathering.company(), gathering.came(), gathering.waiting(), gathering.next_people(),
            gathering.will_never(), gathering.operations(), len(gathering), repr(gathering))


def history(gathering):
    """The answers at every number of operations."""
    return [answers(gathering.as_of(many)) for many in range(gathering.operations() + 1)]


def led(company, *operations):
    """A Gathering after operations, each a method's name and its arguments."""
    gathering = Gathering(company)
    for name, *given in operations:
        getattr(gathering, name)(*given)
    return gathering


def pairs(*names):
    """The log of calls of these names."""
    return [(side, name) for name in names for side in ("in", "out")]


def busy():
    """A Gathering after several operations: 0, 3, 1 and 2 have come, 4 and 5 have not."""
    return led(FIVE, ("come", 0), ("come_all", [3, 1]), ("set_need", 4, 3), ("add_person", (1, 2), 2), ("come", 2))


class GatheringTest(SharedTest):
    def assert_unmoved(self, gathering, error, value, name, *given, **named):
        """The call raises the error, and nothing changes but the log."""
        before, log = history(gathering), gathering.log()
        self.assert_raises(error, value, getattr(gathering, name), *given, **named)
        self.assert_same(history(gathering), before)
        self.assert_same(gathering.log(), log + pairs(name))

    def assert_undone(self, gathering, name, *given):
        """The call is one operation, and undo takes it back."""
        before = history(gathering)
        getattr(gathering, name)(*given)
        self.assert_same(gathering.operations(), len(before))
        self.assertIs(gathering.undo(), True)
        self.assert_same(history(gathering), before)


class Examples(SharedTest):
    def test_as_they_stand_in_the_document(self):
        self.assert_examples(EXAMPLES, 6, dict(Gathering=Gathering))


class Interface(unittest.TestCase):
    def test_each_method_stands_in_the_class(self):
        for name in METHODS:
            with self.subTest(name):
                self.assertIn(name, vars(Gathering))


class Created(GatheringTest):
    def test_without_people(self):
        for gathering in (Gathering(), Gathering(()), Gathering([]), Gathering(company=())):
            self.assert_same(answers(gathering), ((), (), [], [], (), 0, 0, "Gathering(0 of 0 people)"))
            self.assert_same(gathering.log(), [])

    def test_nobody_has_come(self):
        self.assert_same(answers(Gathering(FIVE)),
                         (FIVE, (), [0, 1, 2, 3, 4], [0, 3], (), 0, 0, "Gathering(0 of 5 people)"))

    def test_lists_for_tuples(self):
        for company in list_for_one_tuple(FIVE) + [as_lists(FIVE)]:
            self.assert_same(Gathering(company).company(), FIVE)

    def test_by_name(self):
        self.assert_same(Gathering(company=FOUR).company(), FOUR)

    def test_argument_is_copied(self):
        company = as_lists(FOUR)
        gathering = Gathering(company)
        company[1][0].append(3)
        company[2][1] = 9
        company.pop()
        self.assert_same(gathering.company(), FOUR)
        self.assert_same(gathering.as_of(0).company(), FOUR)

    def test_argument_unchanged(self):
        company = as_lists(FOUR)
        gathering = Gathering(company)
        gathering.add_person([0], 1)
        gathering.set_need(1, 5)
        gathering.meet()
        self.assert_same(company, as_lists(FOUR))

    def test_larger_than_the_bounds(self):
        gathering = Gathering((((), 0),) * 23)
        self.assert_same(gathering.meet(), list(range(23)))
        self.assert_unmoved(gathering, Full, 23, "add_person", (), 0)


class Come(GatheringTest):
    def test_how_many_are_there(self):
        gathering = Gathering(FIVE)
        for many, person in enumerate((3, 2, 4, 1, 0)):
            self.assert_same(gathering.come(person), many + 1)
        self.assert_same(gathering.came(), (3, 2, 4, 1, 0))
        self.assert_same(gathering.operations(), 5)

    def test_no_person(self):
        for gathering in (Gathering(), Gathering(FIVE), busy()):
            many = len(gathering.company())
            for person in (-1, -many, -many - 1, -10 ** 60, many, many + 1, 10 ** 60):
                self.assert_unmoved(gathering, NoPerson, person, "come", person)

    def test_here(self):
        gathering = busy()
        for person in gathering.came():
            self.assert_unmoved(gathering, Here, person, "come", person)

    def test_early(self):
        for person in (1, 2, 4):
            self.assert_unmoved(Gathering(FIVE), Early, person, "come", person)
        self.assert_unmoved(led(FIVE, ("come_all", [0, 1])), Early, 4, "come", 4)

    def test_undone(self):
        self.assert_undone(Gathering(FIVE), "come", 3)
        self.assert_undone(busy(), "come", 5)

    def test_by_name(self):
        gathering = Gathering(FIVE)
        self.assert_same(gathering.come(person=3), 1)
        self.assert_unmoved(gathering, Here, 3, "come", person=3)


class ComeAll(GatheringTest):
    def test_one_after_the_other(self):
        gathering = Gathering(FIVE)
        self.assert_same(gathering.come_all([3, 2, 1]), 3)
        self.assert_same(gathering.come_all((4, 0)), 5)
        self.assert_same((gathering.came(), gathering.operations()), ((3, 2, 1, 4, 0), 2))

    def test_none(self):
        gathering = led(FIVE, ("come", 0))
        self.assert_same((gathering.come_all([]), gathering.come_all(())), (1, 1))
        self.assert_same((gathering.came(), gathering.operations()), ((0,), 3))
        self.assert_undone(Gathering(), "come_all", [])
        self.assert_undone(busy(), "come_all", ())

    def test_later_one_fails(self):
        for people, error, person in (
                ([0, 3, 4], Early, 4), ([0, 1, 1], Here, 1), ([0, 3, 5], NoPerson, 5), ([3, 0, -1], NoPerson, -1),
                ([0, 1, 2, 3, 4, -5], NoPerson, -5), ([0, 0], Here, 0), ([3, 1], Early, 1)):
            self.assert_unmoved(Gathering(FIVE), error, person, "come_all", people)
            self.assert_unmoved(led(FIVE, ("meet",), ("undo",)), error, person, "come_all", tuple(people))

    def test_the_first_one_that_fails(self):
        for people, error, person in (
                ([1, 0, 0, 9], Early, 1), ([9, 1, 0], NoPerson, 9), ([0, 0, 9, 4], Here, 0), ([-1, 9], NoPerson, -1),
                ([4, 9], Early, 4), ([0, 9, 0, 4], NoPerson, 9)):
            self.assert_unmoved(Gathering(FIVE), error, person, "come_all", people)

    def test_somebody_is_there_before(self):
        self.assert_unmoved(led(FIVE, ("come", 0)), Here, 0, "come_all", [3, 0])

    def test_undone_as_one(self):
        self.assert_undone(Gathering(FIVE), "come_all", [3, 2, 4, 1, 0])
        self.assert_undone(led(FIVE, ("come", 3)), "come_all", [2, 4])

    def test_argument(self):
        people = [3, 2]
        gathering = Gathering(FIVE)
        gathering.come_all(people=people)
        self.assert_same(people, [3, 2])
        people.append(4)
        self.assert_same(gathering.came(), (3, 2))


class Meet(GatheringTest):
    def test_round_by_round(self):
        gathering = Gathering(FIVE)
        self.assert_same([gathering.meet(), gathering.meet(), gathering.meet(), gathering.meet()],
                         [[0, 3], [1, 2], [4], []])
        self.assert_same((gathering.came(), gathering.operations()), ((0, 3, 1, 2, 4), 4))

    def test_only_after_those_who_were_there_before(self):
        gathering = Gathering((((1,), 1), ((), 0), ((0, 1), 1), ((0, 2), 1)))
        self.assert_same([gathering.meet(), gathering.meet(), gathering.meet()], [[1], [0, 2], [3]])

    def test_nobody_can_come(self):
        for company in ((), (((1,), 1), ((0,), 1))):
            gathering = Gathering(company)
            self.assert_same((gathering.meet(), gathering.operations(), gathering.came()), ([], 1, ()))
            self.assert_undone(gathering, "meet")

    def test_undone(self):
        self.assert_undone(Gathering(FIVE), "meet")
        self.assert_undone(led(FIVE, ("come", 3)), "meet")

    def test_result_belongs_to_the_caller(self):
        gathering = Gathering(FIVE)
        first = gathering.meet()
        first.append(4)
        first[0] = 2
        self.assert_same((gathering.came(), gathering.waiting()), ((0, 3), [1, 2, 4]))


class AddPerson(GatheringTest):
    def test_the_next_number(self):
        gathering = Gathering()
        self.assert_same([gathering.add_person((), 0), gathering.add_person((0,), 1), gathering.add_person([0, 1], 5)],
                         [0, 1, 2])
        self.assert_same(gathering.company(), (((), 0), ((0,), 1), ((0, 1), 5)))
        self.assert_same((gathering.waiting(), gathering.next_people(), gathering.will_never()), ([0, 1, 2], [0], (2,)))

    def test_friends_who_are_there_count(self):
        gathering = led(FREE, ("meet",), ("add_person", (0, 2), 2))
        self.assert_same((gathering.next_people(), gathering.come(3)), ([3], 4))

    def test_no_person(self):
        for friends, person in (((5,), 5), ((0, 5), 5), ((5, 6), 5), ((0, 1, 2, 3, 4, 9, 10), 9), ((-1,), -1),
                                ((-5, 0), -5), ((-1, 9), -1), ((10 ** 60,), 10 ** 60), ((-10 ** 60, 0), -10 ** 60)):
            self.assert_unmoved(Gathering(FIVE), NoPerson, person, "add_person", friends, 1)
            self.assert_unmoved(Gathering(FIVE), NoPerson, person, "add_person", list(friends), 0)
        self.assert_unmoved(Gathering(), NoPerson, 0, "add_person", (0,), 0)

    def test_full(self):
        gathering = Gathering((((), 0),) * 18)
        self.assert_same((gathering.add_person((), 0), gathering.add_person((18,), 1)), (18, 19))
        self.assert_same(len(gathering.company()), 20)
        self.assert_unmoved(gathering, Full, 20, "add_person", (), 0)
        self.assert_unmoved(gathering, Full, 20, "add_person", (0, 19), 2)
        self.assert_unmoved(Gathering((((), 0),) * 20), Full, 20, "add_person", (), 0)
        self.assert_unmoved(Gathering((((), 0),) * 21), Full, 21, "add_person", (20,), 0)

    def test_no_person_goes_before_full(self):
        gathering = Gathering((((), 0),) * 20)
        self.assert_unmoved(gathering, NoPerson, 20, "add_person", (0, 20), 0)
        self.assert_unmoved(gathering, NoPerson, -1, "add_person", (-1, 20), 0)

    def test_room_again_after_undo(self):
        gathering = led((((), 0),) * 19, ("add_person", (), 0))
        self.assert_unmoved(gathering, Full, 20, "add_person", (), 0)
        gathering.undo()
        self.assert_same(gathering.add_person((18,), 0), 19)

    def test_undone(self):
        self.assert_undone(Gathering(), "add_person", (), 0)
        self.assert_undone(busy(), "add_person", (0, 4), 1)

    def test_argument(self):
        friends = [0, 2]
        gathering = Gathering(FREE)
        gathering.add_person(need=1, friends=friends)
        self.assert_same(friends, [0, 2])
        friends[0] = 1
        friends.append(5)
        self.assert_same(gathering.company(), FREE + (((0, 2), 1),))


class SetNeed(GatheringTest):
    def test_the_need_before(self):
        gathering = Gathering(FIVE)
        self.assert_same([gathering.set_need(4, 7), gathering.set_need(4, 0), gathering.set_need(4, 0)], [2, 7, 0])
        self.assert_same((gathering.company(), gathering.operations()), (FOUR + (((1, 2, 3), 0),), 3))

    def test_who_can_come_changes(self):
        gathering = Gathering(FIVE)
        gathering.set_need(4, 0)
        self.assert_same(gathering.next_people(), [0, 3, 4])
        gathering.set_need(4, 4)
        self.assert_same((gathering.next_people(), gathering.will_never()), ([0, 3], (4,)))

    def test_no_person(self):
        for gathering in (Gathering(), Gathering(FIVE), busy()):
            many = len(gathering.company())
            for person in (-1, -many, -many - 1, -10 ** 60, many, many + 1, 10 ** 60):
                self.assert_unmoved(gathering, NoPerson, person, "set_need", person, 0)

    def test_here(self):
        gathering = busy()
        for person in gathering.came():
            self.assert_unmoved(gathering, Here, person, "set_need", person, 1)

    def test_not_here_after_undo(self):
        gathering = led(FIVE, ("come", 0))
        gathering.undo()
        self.assert_same(gathering.set_need(0, 1), 0)
        self.assert_unmoved(gathering, Early, 0, "come", 0)

    def test_undone(self):
        self.assert_undone(Gathering(FIVE), "set_need", 0, 3)
        self.assert_undone(Gathering(FIVE), "set_need", 0, 0)
        self.assert_undone(busy(), "set_need", 4, 9)

    def test_by_name(self):
        gathering = Gathering(FIVE)
        self.assert_same(gathering.set_need(need=3, person=4), 2)
        self.assert_unmoved(gathering, NoPerson, 5, "set_need", need=3, person=5)


class Undo(GatheringTest):
    def test_none(self):
        gathering = Gathering(FIVE)
        self.assertIs(gathering.undo(), False)
        self.assert_same(answers(gathering), answers(Gathering(FIVE)))

    def test_back_to_the_beginning(self):
        gathering = busy()
        states = history(gathering)
        self.assert_same(len(states), 6)
        for state in states[-2::-1]:
            self.assertIs(gathering.undo(), True)
            self.assert_same(answers(gathering), state)
        self.assertIs(gathering.undo(), False)
        self.assert_same(answers(gathering), answers(Gathering(FIVE)))

    def test_undo_is_not_undone(self):
        gathering = led(FIVE, ("come", 0), ("come", 3), ("undo",), ("undo",))
        self.assert_same((gathering.came(), gathering.operations()), ((), 0))

    def test_failed_calls_are_not_undone(self):
        gathering = led(FIVE, ("come", 0))
        self.assert_unmoved(gathering, Here, 0, "come", 0)
        self.assertIs(gathering.undo(), True)
        self.assertIs(gathering.undo(), False)

    def test_sixty_operations(self):
        gathering = Gathering(FIVE)
        for need in range(60):
            gathering.set_need(4, need)
        self.assert_same((gathering.operations(), gathering.company()[4][1]), (60, 59))
        for need in range(58, -1, -1):
            gathering.undo()
            self.assert_same(gathering.company()[4][1], need)


class Queries(GatheringTest):
    def test_waiting(self):
        gathering = led(FIVE, ("come", 3), ("come", 0))
        self.assert_same((gathering.came(), gathering.waiting()), ((3, 0), [1, 2, 4]))

    def test_waiting_names_people_who_never_come(self):
        self.assert_same(Gathering((((), 1), ((), 0))).waiting(), [0, 1])

    def test_will_never(self):
        gathering = Gathering((((1,), 1), ((0,), 1), ((), 0)))
        self.assert_same(gathering.will_never(), (0, 1))
        gathering.set_need(0, 0)
        self.assert_same(gathering.will_never(), ())
        gathering.come(0)
        self.assert_same(gathering.will_never(), ())
        gathering.set_need(1, 2)
        self.assert_same(gathering.will_never(), (1,))

    def test_lists_belong_to_the_caller(self):
        gathering = busy()
        before, log = answers(gathering), gathering.log()
        for query in (gathering.waiting, gathering.next_people, gathering.log):
            result = query()
            result.append(7)
            result[0] = -1
        self.assert_same(answers(gathering), before)
        self.assert_same(gathering.log(), log)

    def test_queries_change_nothing(self):
        gathering = busy()
        before, log = history(gathering), gathering.log()
        self.assert_same(history(gathering), before)
        self.assert_same(gathering.log(), log)


class AsOf(GatheringTest):
    def test_every_number(self):
        gathering = Gathering(FIVE)
        states = [answers(gathering)]
        for name, *given in (("come", 0), ("meet",), ("add_person", (0,), 1), ("come_all", []), ("set_need", 4, 1),
                             ("come_all", [5, 4])):
            getattr(gathering, name)(*given)
            states.append(answers(gathering))
        for many, state in enumerate(states):
            self.assert_same(answers(gathering.as_of(many)), state)
            self.assert_same(gathering.as_of(many=many).log(), [])
        self.assert_same(history(gathering), states)

    def test_no_operation(self):
        for gathering in (Gathering(), busy()):
            before, log = history(gathering), gathering.log()
            for many in (-1, -2, -10 ** 60, gathering.operations() + 1, 10 ** 60):
                self.assert_raises(NoOperation, many, gathering.as_of, many)
                self.assert_raises(NoOperation, many, gathering.as_of, many=many)
            self.assert_same((history(gathering), gathering.log()), (before, log))

    def test_operations_undone_no_longer_count(self):
        gathering = led(FIVE, ("come", 0), ("come", 3), ("undo",))
        self.assert_raises(NoOperation, 2, gathering.as_of, 2)
        gathering.come(1)
        self.assert_same(gathering.as_of(2).came(), (0, 1))

    def test_operations_can_be_undone_there(self):
        gathering = busy()
        states = history(gathering)
        earlier = gathering.as_of(4)
        for state in states[3::-1]:
            self.assertIs(earlier.undo(), True)
            self.assert_same(answers(earlier), state)
        self.assertIs(earlier.undo(), False)
        self.assert_same(history(gathering), states)

    def test_twin(self):
        gathering = busy()
        twin = gathering.twin()
        self.assert_same(history(twin), history(gathering))
        self.assert_same(twin.log(), [])
        self.assertIsNot(twin, gathering)
        self.assertEqual(twin, gathering)

    def test_led_on_separately(self):
        gathering = busy()
        states, log = history(gathering), gathering.log()
        twin, earlier = gathering.twin(), gathering.as_of(3)
        twin.add_person((), 0)
        twin.meet()
        earlier.set_need(4, 0)
        earlier.undo()
        earlier.undo()
        self.assert_same((history(gathering), gathering.log()), (states, log))
        gathering.undo()
        gathering.come(2)
        gathering.set_need(4, 50)
        self.assert_same((twin.operations(), twin.as_of(5).company()[4][1], len(twin)), (7, 3, 7))
        self.assert_same((earlier.operations(), earlier.came()), (2, (0, 3, 1)))
        self.assert_same(twin.log(), pairs("add_person", "meet"))
        self.assert_same(earlier.log(), pairs("set_need", "undo", "undo"))


class Log(GatheringTest):
    def test_calls_that_succeed(self):
        self.assert_same(led(FIVE, ("come", 0), ("come_all", [3, 1]), ("meet",), ("add_person", (), 3),
                             ("set_need", 5, 2), ("undo",)).log(),
                         [("in", "come"), ("out", "come"), ("in", "come_all"), ("out", "come_all"), ("in", "meet"),
                          ("out", "meet"), ("in", "add_person"), ("out", "add_person"), ("in", "set_need"),
                          ("out", "set_need"), ("in", "undo"), ("out", "undo")])

    def test_calls_that_fail(self):
        gathering = Gathering(FIVE)
        for error, name, *given in ((Early, "come", 1), (NoPerson, "come_all", [0, 9]), (NoPerson, "set_need", -1, 0),
                                    (NoPerson, "add_person", (5,), 0)):
            with self.assertRaises(error):
                getattr(gathering, name)(*given)
        self.assert_same(gathering.log(), pairs("come", "come_all", "set_need", "add_person"))

    def test_undo_of_none(self):
        self.assert_same(led((), ("undo",), ("undo",)).log(), pairs("undo", "undo"))

    def test_undo_takes_nothing_from_the_log(self):
        self.assert_same(led(FIVE, ("come", 0), ("undo",)).log(), pairs("come", "undo"))

    def test_queries_are_not_written(self):
        gathering = busy()
        log = gathering.log()
        gathering.twin(), gathering.as_of(0), gathering.log(), answers(gathering), gathering == gathering
        self.assertRaises(NoOperation, gathering.as_of, -1)
        self.assert_same(gathering.log(), log)


class Equality(GatheringTest):
    def assert_equal(self, one, other, expected):
        self.assertIs(one == other, expected)
        self.assertIs(other == one, expected)
        self.assertIs(one != other, not expected)
        self.assertIs(other != one, not expected)

    def test_the_same_state_in_another_way(self):
        self.assert_equal(Gathering(FIVE), Gathering(as_lists(FIVE)), True)
        self.assert_equal(led(FIVE, ("come", 0), ("come", 3)), led(FIVE, ("meet",)), True)
        self.assert_equal(led(FOUR, ("add_person", (1, 2, 3), 2)), Gathering(FIVE), True)
        self.assert_equal(led(FIVE, ("come", 0), ("undo",), ("undo",)), Gathering(FIVE), True)
        self.assert_equal(Gathering(), Gathering([]), True)

    def test_another_company(self):
        self.assert_equal(Gathering(FIVE), Gathering(FOUR), False)
        self.assert_equal(Gathering(FIVE), led(FIVE, ("set_need", 4, 3)), False)
        self.assert_equal(Gathering((((1,), 0), ((), 0))), Gathering((((), 0), ((), 0))), False)

    def test_another_order(self):
        self.assert_equal(led(FIVE, ("come_all", [0, 3])), led(FIVE, ("come_all", [3, 0])), False)
        self.assert_equal(led(FIVE, ("come", 0)), Gathering(FIVE), False)

    def test_other_values(self):
        gathering = led(FIVE, ("come", 0))
        for other in (None, True, False, 0, 1, "", "Gathering(1 of 5 people)", FIVE, (FIVE, (0,)), [FIVE, (0,)], (0,),
                      gathering.came(), {}, Gathering, object()):
            self.assert_equal(gathering, other, False)
        for other in (None, False, 0, "", (), [], ((), ()), {}):
            self.assert_equal(Gathering(), other, False)


class LenAndRepr(GatheringTest):
    def test_len(self):
        self.assert_same([len(Gathering()), len(Gathering(FIVE)), len(led(FIVE, ("meet",))), len(busy())], [0, 0, 2, 4])

    def test_repr(self):
        self.assert_same(repr(led((((), 0),), ("meet",))), "Gathering(1 of 1 people)")
        self.assert_same(repr(led(FIVE, ("meet",))), "Gathering(2 of 5 people)")
        self.assert_same(repr(busy()), "Gathering(4 of 6 people)")
        self.assert_same(repr(Gathering((((), 0),) * 20)), "Gathering(0 of 20 people)")


def replayed(company, operations):
    """The model after these operations, all of which succeed."""
    model = Model(company)
    for name, given in operations:
        getattr(model, name)(*given)
    return model


class ManyOperations(GatheringTest):
    """After any operations, a Gathering answers like a new one in the same state."""

    def assert_like(self, gathering, company, operations):
        model = replayed(company, operations)
        self.assert_same(gathering.company(), tuple(model.entries))
        self.assert_same(gathering.came(), tuple(model.row))
        self.assert_same(gathering.operations(), len(operations))
        self.assert_same(gathering.waiting(), [one for one in range(len(model.entries)) if one not in model.row])
        self.assert_same(gathering.next_people(), model.meet())
        while model.meet():
            pass
        stuck = [one for one in range(len(model.entries)) if one not in model.row]
        self.assert_same(gathering.will_never(), tuple(stuck))
        self.assertIs(is_company(gathering.company()), True)

    def assert_like_a_new_one(self, gathering):
        fresh = Gathering(gathering.company())
        fresh.come_all(gathering.came())
        self.assertEqual(gathering, fresh)
        self.assert_same(answers(gathering)[:5] + answers(gathering)[6:], answers(fresh)[:5] + answers(fresh)[6:])

    def lead(self, source):
        company = random_company(source, source.randrange(6))
        gathering, operations, names = Gathering(company), [], []
        for _ in range(25):
            name, given = random_call(source, len(gathering.company()))
            names.append(name)
            if name == "undo":
                self.assertIs(gathering.undo(), bool(operations))
                operations = operations[:-1]
            else:
                expected = outcome(replayed(company, operations), name, given)
                self.assert_same(outcome(gathering, name, given), expected)
                if not isinstance(expected, str):
                    operations.append((name, given))
            self.assert_like(gathering, company, operations)
            self.assert_like_a_new_one(gathering)
        for many in range(len(operations) + 1):
            self.assert_like(gathering.as_of(many), company, operations[:many])
        self.assert_same(gathering.log(), pairs(*names))

    def test_random_operations(self):
        source = random.Random(12)
        for _ in range(60):
            self.lead(source)


if __name__ == "__main__":
    unittest.main()
