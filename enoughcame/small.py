"""Small companies: their orders counted and numbered, and exact chances."""

from enoughcame.coming import next_people
from enoughcame.companies import check_few, check_person
from enoughcame.errors import NoNumber, TooMany
from enoughcame.most import MOST
from enoughcame.orders import check_everybody, check_order


def count_orders(company):
    """How many ORDERs there are."""
    check_small(company)
    return ways_on(steps_of(company))[()]


def order_at(company, number):
    """The ORDER with that number, as they ascend."""
    check_small(company)
    steps = steps_of(company)
    ways = ways_on(steps)
    if not 0 <= number < ways[()]:
        raise NoNumber(number)
    row, people, left = (), (), number
    while len(row) < len(company):
        for person, more in steps[people].items():
            if left < ways[more]:
                break
            # The number lies behind all ORDERs in which this one comes next.
            left -= ways[more]
        row, people = row + (person,), more
    return row


def number_of(company, order):
    """The number of the ORDER, as they ascend."""
    check_small(company)
    check_order(company, order)
    steps = steps_of(company)
    ways = ways_on(steps)
    number, people = 0, ()
    for person in order:
        number += sum([ways[more] for one, more in steps[people].items() if one < person])
        people = steps[people][person]
    return number


def all_orders(company):
    """The ascending list of all ORDERs."""
    many = count_orders(company)
    if many > MOST:
        raise TooMany(many)
    rows = [()]
    for place in range(len(company)):
        # Each row leads on to an ORDER, so there are never more rows than ORDERs.
        rows = [row + (person,) for row in rows for person in next_people(company, row)]
    return rows


def chance_before(company, one, other):
    """The FRACTION of the ORDERs in which one is before other."""
    check_asked(company, [one, other])
    found = arrivals(company, one)
    return share([many for people, many in found if other not in people], found)


def chances_of(company, person):
    """The list of the FRACTIONs of the ORDERs in which the person has the index 0, 1, and so on."""
    check_asked(company, [person])
    found = arrivals(company, person)
    return [
        share([many for people, many in found if len(people) == place], found)
        for place in range(len(company))
    ]


def earliest_place(company, person):
    """The least index of the person in an ORDER."""
    check_asked(company, [person])
    return min([len(people) for people, many in arrivals(company, person)])


def check_small(company):
    """Raises Stuck if not everybody can come, then TooMany if the company is not a small one."""
    check_everybody(company)
    check_few(company)


def check_asked(company, people):
    """Raises what is wrong with the company, then NoPerson for the first one who is not there."""
    check_small(company)
    for person in people:
        check_person(company, person)


def steps_of(company):
    """For each possible PEOPLE, small ones first, a dict: by each one who can come next, the PEOPLE who are there then.

    There are few such sets, however many orders lead through them; so all is counted by sets.
    """
    steps = {}
    layer = [()]
    while layer:
        for people in layer:
            steps[people] = {person: with_person(people, person) for person in next_people(company, people)}
        layer = list({more: True for people in layer for more in steps[people].values()})
    return steps


def with_person(people, person):
    """The PEOPLE with one more person."""
    return tuple(sorted([*people, person]))


def ways_on(steps):
    """By each possible PEOPLE, in how many orders all others can come after them."""
    ways = {}
    for people in reversed(list(steps)):
        following = [ways[more] for more in steps[people].values()]
        # After everybody there is nothing left to do, in one way.
        ways[people] = sum(following) if following else 1
    return ways


def ways_up(steps):
    """By each possible PEOPLE, in how many orders they can come."""
    ways = {people: 0 for people in steps}
    ways[()] = 1
    for people, moves in steps.items():
        for more in moves.values():
            ways[more] += ways[people]
    return ways


def arrivals(company, person):
    """The list of pairs (people, many): the person comes next after these PEOPLE in so many ORDERs."""
    steps = steps_of(company)
    up, on = ways_up(steps), ways_on(steps)
    return [(people, up[people] * on[moves[person]]) for people, moves in steps.items() if person in moves]


def share(parts, found):
    """The FRACTION of the ORDERs of all arrivals found that the parts add up to."""
    part, whole = sum(parts), sum([many for people, many in found])
    divisor, rest = whole, part
    while rest > 0:
        divisor, rest = rest, divisor % rest
    return part // divisor, whole // divisor
