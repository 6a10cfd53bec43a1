"""The guarantees (a) to (f) of point 1, with up to 20 people, by other means than the functions under test."""

import fractions
import itertools
import random
import unittest

from enoughcame.before import earlier_people, free_pairs, later_people, latest_place, must_before
from enoughcame.coming import comes_without, greatest, never, shows_stuck
from enoughcame.companies import joined
from enoughcame.errors import Contradiction, Early, Full, Here, NoPerson
from enoughcame.exchanges import crossed, distance, exchanged, plan, shows_plan
from enoughcame.gathering import Gathering
from enoughcame.orders import first_order, is_order, last_order
from enoughcame.reports import agree, bounds_of, evidence, shows_evidence, verdict
from enoughcame.small import chance_before, chances_of, count_orders, earliest_place, number_of, order_at
from support import (CHAIN, Model, SharedTest, can_come, fits, outcome, random_call, random_company,
                     random_open_company, random_order)


def peeled(company, people):
    """What is left of these people if one after another leaves who has enough friends outside of them."""
    left = set(people)
    while True:
        free = [one for one in left if len(set(company[one][0]) - left) >= company[one][1]]
        if not free:
            return tuple(sorted(left))
        left.discard(free[0])


def narrow_company(source, many):
    """A company in which all can come, but most people need nearly all of their friends who are ahead in one row."""
    row = source.sample(range(many), many)
    entries = []
    for person in range(many):
        ahead = row[:row.index(person)]
        friends = set(source.sample(ahead, min(len(ahead), 4)))
        need = max(0, len(friends) - source.randrange(2))
        # Some friends come later, perhaps, and help only in other orders.
        friends |= set([one for one in range(many) if one != person and source.random() < 0.1])
        entries.append((tuple(sorted(friends)), need))
    return tuple(entries)


def moves_of(company):
    """By each set of people that can be there, as the bits of a number, the people who can come next."""
    masks = [(sum([1 << friend for friend in friends]), need) for friends, need in company]
    found, waiting = {}, [0]
    while waiting:
        there = waiting.pop()
        if there not in found:
            found[there] = [person for person, (mask, need) in enumerate(masks)
                            if not there >> person & 1 and (there & mask).bit_count() >= need]
            waiting.extend([there | 1 << person for person in found[there]])
    return found


def narrow_companies(sizes, seed):
    """Companies of these sizes, with few enough sets of people that can be there to go through all of them."""
    source = random.Random(seed)
    return [narrow_company(source, many) for many in sizes]


def orders_one_by_one(company, row=()):
    """Each order, ascending, by letting one person after another come."""
    if len(row) == len(company):
        yield row
    for person in range(len(company)):
        if person not in row and can_come(company, person, row):
            yield from orders_one_by_one(company, row + (person,))


class Stuck(SharedTest):
    """(a) Everybody can come, or the greatest set of people who are stuck is returned."""

    def test_the_greatest_set(self):
        source = random.Random(1)
        seen = set()
        for many in list(range(21)) * 6:
            company = source.choice([random_company, random_open_company])(source, many)
            people = never(company)
            self.assert_same(people, peeled(company, range(many)))
            self.assert_same(greatest(company), tuple([one for one in range(many) if one not in people]))
            self.assertIs(shows_stuck(company, people), people != ())
            seen.add((many == 20, people == (), len(people) == many))
        self.assertLess({(True, True, False), (True, False, False)}, seen)

    def test_each_other_set_lies_within(self):
        source = random.Random(10)
        for _ in range(60):
            company = random_company(source, 20)
            people = peeled(company, source.sample(range(20), 15))
            self.assertIs(shows_stuck(company, people), people != ())
            self.assertLessEqual(set(people), set(never(company)))


class Exchanges(SharedTest):
    """(b) Any two orders are turned into each other, with one exchange for each pair in different order."""

    def test_plans(self):
        source = random.Random(2)
        for many in list(range(21)) * 2:
            company = random_open_company(source, many)
            one, other = random_order(source, company), random_order(source, company)
            pairs = set(itertools.combinations(one, 2)) - set(itertools.combinations(other, 2))
            self.assert_same(crossed(company, one, other), sorted([tuple(sorted(pair)) for pair in pairs]))
            self.assert_same(distance(company, one, other), len(pairs))
            self.assert_follows(company, one, other, len(pairs))

    def assert_follows(self, company, one, other, many):
        places, row = plan(company, one, other), one
        self.assertEqual(len(places), many)
        self.assertIs(shows_plan(company, one, other, places), True)
        for place in places:
            row = exchanged(company, row, place)
            self.assertTrue(fits(company, row) and is_order(company, row))
        self.assertEqual(row, other)

    def test_between_the_first_and_the_last_order(self):
        for company in narrow_companies([20] * 5, 22) + [(((), 0),) * 20, CHAIN, joined(CHAIN[:9], CHAIN[:11])]:
            one, other = first_order(company), last_order(company)
            self.assert_follows(company, one, other, distance(company, one, other))
            self.assert_follows(company, other, one, distance(company, one, other))


class Before(SharedTest):
    """(c) Who is before whom, and the latest places, against all sets of people that can be there."""

    def assert_befores(self, company):
        many = len(company)
        moves = moves_of(company)
        may = {(b, a) for there, able in moves.items() for b in able for a in range(many)
               if a != b and not there >> a & 1}
        must = [(a, b) for a, b in itertools.permutations(range(many), 2) if (b, a) not in may]
        self.assert_same(must_before(company), must)
        self.assert_same(free_pairs(company), [(a, b) for a, b in itertools.combinations(range(many), 2)
                                               if (a, b) in may and (b, a) in may])
        for person in range(many):
            places = [there.bit_count() for there, able in moves.items() if person in able]
            self.assert_same(latest_place(company, person), max(places))
            self.assert_same(earlier_people(company, person), tuple([a for a, b in must if b == person]))
            self.assert_same(later_people(company, person), tuple([b for a, b in must if a == person]))
            alone = set(range(many)) - set([b for a, b in must if a == person]) - {person}
            self.assert_same(comes_without(company, (person,)), tuple(sorted(alone)))
            self.assertEqual(len(alone), max(places))

    def test_narrow_companies(self):
        for company in narrow_companies(list(range(13)) + [16, 16, 20, 20, 20], 3):
            self.assert_befores(company)

    def test_chains_side_by_side(self):
        for sizes in ((20,), (7, 13), (6, 6, 8), (5, 5, 5, 5)):
            company = ()
            for many in sizes:
                company = joined(company, CHAIN[:many])
            self.assert_befores(company)


class Small(SharedTest):
    """(d) Counts, numbers and chances, against the orders themselves."""

    def assert_numbered(self, company, orders):
        self.assert_same(count_orders(company), len(orders))
        for number in sorted({0, 1, len(orders) // 3, len(orders) // 2, len(orders) - 2, len(orders) - 1}):
            if 0 <= number < len(orders):
                self.assert_same(order_at(company, number), orders[number])
                self.assert_same(number_of(company, orders[number]), number)

    def assert_chances(self, company, orders, person):
        places = [order.index(person) for order in orders]
        chances = chances_of(company, person)
        self.assertEqual([fractions.Fraction(*chance) for chance in chances],
                         [fractions.Fraction(places.count(place), len(orders)) for place in range(len(company))])
        for chance in chances:
            self.assertEqual(chance, fractions.Fraction(*chance).as_integer_ratio())
        self.assert_same(earliest_place(company, person), min(places))
        other = (person + 1) % len(company)
        ahead = len([order for order in orders if order.index(person) < order.index(other)])
        self.assert_same(chance_before(company, person, other),
                         fractions.Fraction(ahead, len(orders)).as_integer_ratio())

    def test_companies_of_up_to_twelve(self):
        tried = []
        for company in narrow_companies(list(range(13)) + [12] * 12, 4):
            orders = list(itertools.islice(orders_one_by_one(company), 10001))
            if len(orders) <= 10000:
                tried.append(len(company))
                self.assert_numbered(company, orders)
                for person in range(0, len(company) if len(company) > 1 else 0, 5):
                    self.assert_chances(company, orders, person)
        self.assertEqual(sorted(set(tried)), list(range(13)))

    def test_chances_add_up(self):
        source = random.Random(44)
        for _ in range(4):
            company = random_open_company(source, 12)
            one, other = source.sample(range(12), 2)
            self.assertEqual(sum([fractions.Fraction(*chance) for chance in chances_of(company, one)]), 1)
            self.assertEqual(fractions.Fraction(*chance_before(company, one, other))
                             + fractions.Fraction(*chance_before(company, other, one)), 1)

    def test_numbers_and_back(self):
        source = random.Random(45)
        for _ in range(4):
            company = random_open_company(source, 12)
            many = count_orders(company)
            numbers = sorted([source.randrange(many) for _ in range(3)])
            orders = [order_at(company, number) for number in numbers]
            self.assertEqual(orders, sorted(orders))
            self.assertEqual([number_of(company, order) for order in orders], numbers)
            self.assertEqual((order_at(company, 0), order_at(company, many - 1)),
                             (first_order(company), last_order(company)))


def reports_about(source, company):
    """True reports about a company, the last person of each of which could not come, or is None."""
    reports = []
    for _ in range(40):
        row = random_order(source, company)[:source.randrange(len(company) + 1)]
        unable = [one for one in range(len(company)) if one not in row and not can_come(company, one, row)]
        reports.append((row, source.choice(unable + [None])))
    return reports


def is_told(friends, report, person, need):
    """Whether the report is true for one person with that need."""
    row, unable = report
    if person in row:
        return len(set(friends[person]) & set(row[:row.index(person)])) >= need
    return person != unable or len(set(friends[person]) & set(row)) < need


class Needs(SharedTest):
    """(e) Exact bounds for each person, or two reports that contradict each other for one person."""

    def needs_told(self, friends, reports, person):
        """The needs up to 30 that agree with all reports about a person."""
        return [need for need in range(31) if all(is_told(friends, report, person, need) for report in reports)]

    def test_true_reports(self):
        source = random.Random(5)
        for many in (1, 5, 12, 20, 20):
            company = random_open_company(source, many)
            friends, needs = [entry[0] for entry in company], tuple([entry[1] for entry in company])
            reports = reports_about(source, company)
            self.assert_same(evidence(friends, reports), None)
            self.assertIs(agree(friends, reports, needs), True)
            bounds = bounds_of(friends, reports)
            for person, (least, most) in enumerate(bounds):
                told = self.needs_told(friends, reports, person)
                self.assertEqual(told, list(range(least, 31 if most is None else most + 1)))
            self.assertIn(verdict(friends, reports, random_order(source, company)), ("yes", "open"))

    def test_false_reports(self):
        source = random.Random(55)
        seen = set()
        for many in [1, 2, 5, 12, 20, 20, 20] * 3:
            company = random_open_company(source, many)
            friends = [entry[0] for entry in company]
            reports = reports_about(source, company)[:30] + reports_about(source, random_open_company(source, many))[:2]
            told = [self.needs_told(friends, reports, person) for person in range(many)]
            found = evidence(friends, reports)
            self.assertEqual(found is None, all(told))
            seen.add(found is None)
            if found is not None:
                self.assert_evidence(friends, reports, found, told.index([]))

    def assert_evidence(self, friends, reports, found, person):
        """The two reports alone contradict each other for the first person for whom any do."""
        self.assertEqual(found[0], person)
        self.assertIs(shows_evidence(friends, reports, found), True)
        two = [reports[found[1]], reports[found[2]]]
        self.assertEqual(self.needs_told(friends, two, person), [])
        self.assert_raises(Contradiction, found, bounds_of, friends, reports)
        self.assert_raises(Contradiction, found, verdict, friends, reports, tuple(range(len(friends))))


class Gatherings(SharedTest):
    """(f) After any operations a Gathering answers like a new one in the same state."""

    def answers(self, gathering):
        return (gathering.company(), gathering.came(), gathering.waiting(), gathering.next_people(),
                gathering.will_never(), len(gathering), repr(gathering))

    def assert_like_a_new_one(self, gathering, call):
        fresh = Gathering(gathering.company())
        fresh.come_all(gathering.came())
        self.assertEqual(gathering, fresh)
        self.assert_same(self.answers(gathering), self.answers(fresh))
        name, given = call
        if name != "undo":
            twin = gathering.twin()
            self.assert_same(outcome(twin, name, given), outcome(fresh, name, given))
            self.assert_same(self.answers(twin), self.answers(fresh))

    def test_many_operations(self):
        source = random.Random(6)
        seen = set()
        for many in (0, 8, 17, 19, 20, 20):
            company = random_company(source, many)
            gathering, states = Gathering(company), [Model(company)]
            while len(states) <= 60:
                call = random_call(source, len(gathering.company()))
                self.assert_like_a_new_one(gathering, call)
                seen.add(self.lead(gathering, states, *call))
                self.assert_same((gathering.company(), gathering.came(), gathering.operations()),
                                 (tuple(states[-1].entries), tuple(states[-1].row), len(states) - 1))
            self.assert_like_a_new_one(gathering.as_of(30), ("meet", ()))
        self.assertEqual(seen, {None, NoPerson, Here, Early, Full})

    def lead(self, gathering, states, name, given):
        """Does the operation with the gathering and with the model; returns the class of the error, if there is one."""
        if name == "undo":
            self.assertIs(gathering.undo(), len(states) > 1)
            del states[max(1, len(states) - 1):]
            return None
        model = states[-1].twin()
        expected = outcome(model, name, given)
        self.assert_same(outcome(gathering, name, given), expected)
        if isinstance(expected, str):
            return next(error for error in (NoPerson, Here, Early, Full) if error.__name__ in expected)
        states.append(model)
        return None


if __name__ == "__main__":
    unittest.main()
