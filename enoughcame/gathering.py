"""A gathering: a company and the people who have come, kept over many operations."""

from enoughcame.coming import has_enough, never, others
from enoughcame.companies import as_tuples, check_person, with_need
from enoughcame.errors import Early, Full, Here, NoOperation
from enoughcame.most import MOST_GATHERED


class Gathering:
    """Holds a COMPANY and the people who have come, in their order."""

    def __init__(self, company=()):
        # One pair (company, people who have come) at first, and one more after each operation in effect.
        self.states = [(as_tuples(company), ())]
        self.calls = []

    def come(self, person):
        """The person comes. Returns how many people are there then."""
        self.write_call("come")
        return self.bring([person])

    def come_all(self, people):
        """The people come one after the other, as one operation. Returns how many people are there then."""
        self.write_call("come_all")
        return self.bring(people)

    def meet(self):
        """All people who can come now come at once. Returns their ascending list."""
        self.write_call("meet")
        arrivals = self.next_people()
        self.bring(arrivals)
        return arrivals

    def add_person(self, friends, need):
        """Adds a new person. Returns the number of that person."""
        self.write_call("add_person")
        company, row = self.states[-1]
        for friend in friends:
            check_person(company, friend)
        many = len(company)
        if many >= MOST_GATHERED:
            raise Full(many)
        self.states.append((company + ((tuple(friends), need),), row))
        return many

    def set_need(self, person, need):
        """Changes the need of a person. Returns the need before."""
        self.write_call("set_need")
        company, row = self.states[-1]
        # This raises NoPerson, which goes before Here.
        changed = with_need(company, person, need)
        if person in row:
            raise Here(person)
        self.states.append((changed, row))
        return company[person][1]

    def undo(self):
        """Takes back the last operation in effect. Returns whether there was one."""
        self.write_call("undo")
        if self.operations() == 0:
            return False
        self.states.pop()
        return True

    def company(self):
        """The COMPANY."""
        return self.states[-1][0]

    def came(self):
        """The tuple of the people who have come, in their order."""
        return self.states[-1][1]

    def waiting(self):
        """The ascending list of the people who have not come."""
        return others(self.company(), self.came())

    def next_people(self):
        """The ascending list of the people who can come."""
        return [person for person in self.waiting() if has_enough(self.company(), person, self.came())]

    def will_never(self):
        """The PEOPLE who can never come, with the company as it is now."""
        # Needs of people who are there do not change, so whoever has come could also come in this company.
        return never(self.company())

    def operations(self):
        """How many operations are in effect."""
        return len(self.states) - 1

    def as_of(self, many):
        """A new Gathering in the state after the first many operations in effect."""
        if not 0 <= many <= self.operations():
            raise NoOperation(many)
        earlier = Gathering()
        earlier.states = self.states[:many + 1]
        return earlier

    def twin(self):
        """A new Gathering in the same state, with the same operations in effect."""
        return self.as_of(self.operations())

    def log(self):
        """The list of the pairs ("in", name) and ("out", name) of all calls of operations."""
        return list(self.calls)

    def __eq__(self, other):
        return isinstance(other, Gathering) and self.states[-1] == other.states[-1]

    def __len__(self):
        return len(self.came())

    def __repr__(self):
        return f"Gathering({len(self.came())} of {len(self.company())} people)"

    def bring(self, people):
        """These people come one after the other, or none of them if one fails. Returns how many are there then."""
        company, row = self.states[-1]
        for person in people:
            check_person(company, person)
            if person in row:
                raise Here(person)
            if not has_enough(company, person, row):
                raise Early(person)
            row = row + (person,)
        self.states.append((company, row))
        return len(row)

    def write_call(self, name):
        """Writes the beginning and the end of a call of an operation into the log."""
        # Nobody can read the log during a call, and a call that fails has an end too: so both are written at once.
        self.calls.append(("in", name))
        self.calls.append(("out", name))
