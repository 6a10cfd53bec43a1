"""Orders: rows of all people in which everybody can come after the people before."""

from enoughcame.coming import has_enough, never, next_people
from enoughcame.companies import is_index
from enoughcame.errors import Misfit, Stuck


def is_order(company, thing):
    """Whether thing is an ORDER of the company."""
    return is_row(company, thing) and misfit(company, thing) is None


def misfit(company, row):
    """The index of the first one in a row of all people who cannot come after the people before; None if all can."""
    for place, person in enumerate(row):
        if not has_enough(company, person, row[:place]):
            return place
    return None


def first_order(company):
    """The first ORDER, as tuples ascend."""
    return order_by_choice(company, 0)


def last_order(company):
    """The last ORDER, as tuples ascend."""
    return order_by_choice(company, -1)


def is_row(company, thing):
    """Whether thing is a tuple of all people of the company, each once."""
    if not isinstance(thing, tuple) or len(thing) != len(company):
        return False
    # Values of other kinds may not be members of a set, so they are ruled out first.
    return all([is_index(person, company) for person in thing]) and len(set(thing)) == len(company)


def order_by_choice(company, index):
    """The ORDER in which the one at that index of those who can come is always the next."""
    check_everybody(company)
    row = ()
    while len(row) < len(company):
        # Whoever comes keeps nobody else from coming, so every choice leads on to an ORDER.
        row = row + (next_people(company, row)[index],)
    return row


def check_everybody(company):
    """Raises Stuck if not everybody can come."""
    people = never(company)
    if people != ():
        raise Stuck(people)


def check_order(company, row):
    """Raises Misfit if a row of all people is no ORDER."""
    place = misfit(company, row)
    if place is not None:
        raise Misfit(place)
