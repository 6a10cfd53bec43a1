"""Who is before whom in every order of a company."""

from enoughcame.coming import comes_without
from enoughcame.companies import check_person
from enoughcame.orders import check_everybody


def must_before(company):
    """The ascending list of the pairs (a, b) such that a is before b in every ORDER."""
    check_everybody(company)
    many = len(company)
    comers = comers_without_each(company)
    return [(a, b) for a in range(many) for b in range(many) if a != b and b not in comers[a]]


def free_pairs(company):
    """The ascending list of the pairs (a, b), a below b, of which either may be first."""
    check_everybody(company)
    many = len(company)
    comers = comers_without_each(company)
    return [(a, b) for a in range(many) for b in range(a + 1, many) if b in comers[a] and a in comers[b]]


def earlier_people(company, person):
    """The PEOPLE who are before that person in every ORDER."""
    check_asked(company, person)
    comers = comers_without_each(company)
    return tuple([one for one in range(len(company)) if one != person and person not in comers[one]])


def later_people(company, person):
    """The PEOPLE who are after that person in every ORDER."""
    check_asked(company, person)
    comers = comes_without(company, (person,))
    return tuple([one for one in range(len(company)) if one != person and one not in comers])


def latest_place(company, person):
    """The greatest index of the person in an ORDER."""
    check_asked(company, person)
    return len(comes_without(company, (person,)))


def comers_without_each(company):
    """For each person the PEOPLE who come if that person never comes."""
    return [comes_without(company, (person,)) for person in range(len(company))]


def check_asked(company, person):
    """Raises Stuck if not everybody can come, then NoPerson if the person is not there."""
    check_everybody(company)
    check_person(company, person)
