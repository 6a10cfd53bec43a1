"""Unknown needs: what reports of who came, and of who could not, tell about them."""

from enoughcame.companies import count_in, is_index, is_number
from enoughcame.errors import Contradiction


def bounds_of(friends, reports):
    """The list of pairs (least, most) of the needs of each person that agree with the reports."""
    least_evidence = evidence(friends, reports)
    if least_evidence is not None:
        raise Contradiction(least_evidence)
    return [bounds_for(friends, reports, person) for person in range(len(friends))]


def evidence(friends, reports):
    """The least EVIDENCE against the reports; None if there is none."""
    many = len(reports)
    found = [
        (person, i, j)
        for person in range(len(friends))
        for i in range(many)
        for j in range(many)
        if is_evidence(friends, reports, person, i, j)
    ]
    return min(found, default=None)


def shows_evidence(friends, reports, thing):
    """Whether thing is EVIDENCE against the reports."""
    if not isinstance(thing, tuple) or len(thing) != 3:
        return False
    person, i, j = thing
    if not is_index(person, friends) or not is_index(i, reports) or not is_index(j, reports):
        return False
    return is_evidence(friends, reports, person, i, j)


def agree(friends, reports, thing):
    """Whether thing is a tuple of needs, one for each person, that agree with the reports."""
    if not isinstance(thing, tuple) or len(thing) != len(friends):
        return False
    # Numbers below 0 are outside of all bounds.
    return all([
        is_number(need) and is_within(need, bounds_for(friends, reports, person))
        for person, need in enumerate(thing)
    ])


def verdict(friends, reports, row):
    """Whether row is an ORDER with all needs that agree ("yes"), with none ("no") or with some ("open")."""
    bounds = bounds_of(friends, reports)
    counts = [count_for(friends, row, person) for person in range(len(friends))]
    # The bounds are those of one person each, so that the needs of all people can be least, or greatest, at once.
    if any([least > count for (least, most), count in zip(bounds, counts)]):
        return "no"
    if all([most is not None and most <= count for (least, most), count in zip(bounds, counts)]):
        return "yes"
    return "open"


def is_evidence(friends, reports, person, i, j):
    """Whether the person came in report i with no more friends than were not enough in report j."""
    row, blocked = reports[i][0], reports[j][1]
    if person not in row or person != blocked:
        return False
    return count_for(friends, row, person) <= count_for(friends, reports[j][0], person)


def bounds_for(friends, reports, person):
    """The pair (least, most) for one person; least exceeds most if no need agrees with the reports."""
    enough = [count_for(friends, row, person) for row, blocked in reports if person in row]
    too_few = [count_for(friends, row, person) for row, blocked in reports if person == blocked]
    return max(too_few, default=-1) + 1, min(enough, default=None)


def is_within(need, bounds):
    """Whether the need lies within the bounds of a person."""
    least, most = bounds
    return need >= least and (most is None or need <= most)


def count_for(friends, row, person):
    """How many friends of the person are in the row ahead of them, in the whole row if they are not in it."""
    ahead = row[:row.index(person)] if person in row else row
    return count_in(friends[person], ahead)
