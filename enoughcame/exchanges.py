"""Exchanges of neighbours, which turn any order of a company into any other one."""

from enoughcame.coming import has_enough
from enoughcame.companies import is_number
from enoughcame.errors import Blocked, NoPlace
from enoughcame.orders import check_everybody, check_order


def exchanges(company, order):
    """The ascending list of the places at which an exchange gives an ORDER."""
    check_orders(company, [order])
    return [place for place in range(len(order) - 1) if gives_order(company, order, place)]


def exchanged(company, order, place):
    """The ORDER after the exchange at that place."""
    check_orders(company, [order])
    if not is_place(order, place):
        raise NoPlace(place)
    if not gives_order(company, order, place):
        raise Blocked((order[place], order[place + 1]))
    return with_exchange(order, place)


def crossed(company, one, other):
    """The ascending list of the pairs (a, b), a below b, who are in different order in the two ORDERs."""
    check_orders(company, [one, other])
    many = len(company)
    return [
        (a, b)
        for a in range(many)
        for b in range(a + 1, many)
        if is_ahead(one, a, b) != is_ahead(other, a, b)
    ]


def distance(company, one, other):
    """The fewest exchanges, all giving ORDERs, that turn one into other."""
    return len(crossed(company, one, other))


def plan(company, one, other):
    """A list of as few places, exchanged one after the other, that turns one into other."""
    check_orders(company, [one, other])
    row = list(one)
    places = []
    for goal, person in enumerate(other):
        # The people before the goal are enough for this person, who may thus pass everybody else on the way there.
        start = row.index(person)
        places.extend([step - 1 for step in range(start, goal, -1)])
        row.pop(start)
        row.insert(goal, person)
    return places


def shows_plan(company, one, other, thing):
    """Whether thing is a list of places, possible one after the other, that turns one into other."""
    check_orders(company, [one, other])
    if not isinstance(thing, list):
        return False
    row = tuple(one)
    for place in thing:
        if not is_number(place) or not is_place(row, place) or not gives_order(company, row, place):
            return False
        row = with_exchange(row, place)
    return row == tuple(other)


def check_orders(company, orders):
    """Raises Stuck if there is no ORDER at all, then Misfit for the first row that is none."""
    check_everybody(company)
    for order in orders:
        check_order(company, order)


def is_place(order, place):
    """Whether two people can be exchanged at that place, be it possible for them or not."""
    return 0 <= place <= len(order) - 2


def gives_order(company, order, place):
    """Whether the exchange at that place gives an ORDER."""
    # The other one of the two could come with one person less, so only the one who moves ahead is asked.
    return has_enough(company, order[place + 1], order[:place])


def with_exchange(order, place):
    """The tuple of the people after the exchange at that place."""
    row = list(order)
    row[place], row[place + 1] = row[place + 1], row[place]
    return tuple(row)


def is_ahead(order, a, b):
    """Whether a stands before b."""
    return order.index(a) < order.index(b)
