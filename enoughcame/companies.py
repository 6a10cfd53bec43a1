"""Companies: tuples of pairs (friends, need), one for each person."""

from enoughcame.errors import NoPerson, TooMany
from enoughcame.most import MOST_PEOPLE


def is_company(thing):
    """Whether thing is a COMPANY."""
    if not isinstance(thing, tuple):
        return False
    many = len(thing)
    return all([is_entry(entry, person, many) for person, entry in enumerate(thing)])


def is_people(company, thing):
    """Whether thing is PEOPLE of the company."""
    return are_people(thing, len(company))


def with_need(company, person, need):
    """The COMPANY in which that person has that need."""
    return with_needs(company, {person: need})


def invited(company, people):
    """The COMPANY in which all of these people have the need 0."""
    return with_needs(company, {person: 0 for person in people})


def joined(one, other):
    """The COMPANY of the people of one, followed by those of other."""
    return as_tuples(one) + renumbered(other, len(one))


def is_number(thing):
    """Whether thing is a number."""
    # Python counts True and False among the ints.
    return isinstance(thing, int) and not isinstance(thing, bool)


def is_index(thing, values):
    """Whether thing is a number that counts one of the values."""
    return is_number(thing) and 0 <= thing < len(values)


def are_people(thing, many):
    """Whether thing is an ascending tuple of people of a company of that many."""
    if not isinstance(thing, tuple):
        return False
    least = 0
    for person in thing:
        if not is_number(person) or not least <= person < many:
            return False
        # The bound keeps the numbers ascending and apart.
        least = person + 1
    return True


def is_entry(thing, person, many):
    """Whether thing is a pair (friends, need) for that person of a company of that many."""
    if not isinstance(thing, tuple) or len(thing) != 2:
        return False
    friends, need = thing
    if not are_people(friends, many) or person in friends:
        return False
    return is_number(need) and need >= 0


def with_needs(company, needs):
    """The COMPANY with the needs of a dict by person, all others as they were."""
    # A dict keeps the order of the argument, so the first wrong person is told.
    for person in needs:
        check_person(company, person)
    return tuple([(tuple(friends), needs.get(person, need)) for person, (friends, need) in enumerate(company)])


def renumbered(company, shift):
    """The entries of the company, with the numbers of all friends increased by shift."""
    return tuple([(tuple([friend + shift for friend in friends]), need) for friends, need in company])


def as_tuples(company):
    """The COMPANY, although lists may stand for its tuples."""
    return renumbered(company, 0)


def check_person(company, person):
    """Raises NoPerson if the person is not in the company."""
    if not 0 <= person < len(company):
        raise NoPerson(person)


def check_few(company):
    """Raises TooMany if the company is not a small one."""
    many = len(company)
    if many > MOST_PEOPLE:
        raise TooMany(many)


def count_in(friends, there):
    """How many of the friends are there."""
    return len([friend for friend in friends if friend in there])
