"""Who can come, who comes in which round, and who is stuck."""

from enoughcame.companies import count_in, is_people


def next_people(company, people):
    """The ascending list of the people who can come after these PEOPLE."""
    return [person for person in others(company, people) if has_enough(company, person, people)]


def greatest(company):
    """The greatest possible PEOPLE: everybody who can ever come."""
    return comes_without(company, ())


def never(company):
    """The PEOPLE who can never come."""
    return tuple(others(company, greatest(company)))


def is_possible(company, people):
    """Whether PEOPLE can come one after another while nobody else comes."""
    return comes_without(company, others(company, people)) == tuple(people)


def comes_without(company, people):
    """The greatest possible PEOPLE without any of these people."""
    return tuple(sorted([person for group in rounds_without(company, people) for person in group]))


def shows_stuck(company, thing):
    """Whether thing is PEOPLE, not empty, each of whom has fewer than need friends outside of thing."""
    if not is_people(company, thing) or thing == ():
        return False
    outside = others(company, thing)
    return not any([has_enough(company, person, outside) for person in thing])


def rounds(company):
    """The list of PEOPLE who come in each round, if in every round all come who can."""
    return rounds_without(company, ())


def has_enough(company, person, there):
    """Whether at least need friends of the person are there."""
    friends, need = company[person]
    return count_in(friends, there) >= need


def others(company, people):
    """The ascending list of the people of the company who are not among these."""
    return [person for person in range(len(company)) if person not in people]


def rounds_without(company, people):
    """The rounds of the company if these people never come."""
    groups = []
    there = []
    while True:
        group = [person for person in next_people(company, there) if person not in people]
        if group == []:
            return groups
        groups.append(tuple(group))
        there = there + group
