"""Invitations: people after whom everybody can come, once they themselves need nobody."""

from enoughcame.coming import never
from enoughcame.companies import check_few, invited
from enoughcame.errors import NoInvitation


def is_invitation(company, people):
    """Whether everybody can come once these have the need 0."""
    return stuck_though_invited(company, people) == ()


def fewest_invited(company):
    """The least number of people of an invitation."""
    return len(first_invitation(company))


def first_invitation(company):
    """The first, as tuples ascend, of all invitations of the fewest people."""
    check_few(company)
    many = len(company)
    for size in range(many):
        for people in sets_of(many, size):
            if is_invitation(company, people):
                return people
    # If nobody can be left out, everybody is invited.
    return tuple(range(many))


def spare(company, people):
    """The ascending list of the people of an invitation each of whom alone can be left out."""
    stuck = stuck_though_invited(company, people)
    if stuck != ():
        raise NoInvitation(stuck)
    return [person for person in people if is_invitation(company, [one for one in people if one != person])]


def stuck_though_invited(company, people):
    """The PEOPLE who never come although these have the need 0."""
    return never(invited(company, people))


def sets_of(many, size):
    """The ascending list of the PEOPLE, of that size, of a company of that many."""
    found = [()]
    for left in range(size, 0, -1):
        # Room is kept for the people that are still to be chosen.
        found = [people + (person,) for people in found for person in range(next_number(people), many - left + 1)]
    return found


def next_number(people):
    """The least number that may stand behind these PEOPLE."""
    return people[-1] + 1 if people else 0
