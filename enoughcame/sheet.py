"""Sheets: texts of lines that a gathering answers one after the other."""

from enoughcame.coming import rounds
from enoughcame.errors import BadLine, BadText, Early, Full, Here, NoPerson, Stuck
from enoughcame.gathering import Gathering
from enoughcame.most import MOST_GATHERED
from enoughcame.orders import first_order
from enoughcame.texts import NOBODY, company_in, company_text, numbers_in, people_in, people_text

# How many numbers stand behind a word. Behind come_all and add there may be any number of people.
NUMBERS_BEHIND = {
    "come": 1, "need": 2, "meet": 0, "undo": 0, "show": 0, "came": 0, "next": 0, "never": 0, "rounds": 0, "first": 0,
}


def answers(text):
    """The list of the answers of a Gathering to the lines of the text."""
    # All lines are read before the first one is answered, so that a bad one is told before anything is done.
    company, commands = sheet_in(text)
    gathering = Gathering(company)
    return [answer(gathering, word, numbers) for word, numbers in commands]


def sheet_in(text):
    """The pair (company, commands) of a text; the commands are a list of pairs (word, numbers)."""
    lines = text.split("\n")
    written = [(number, line) for number, line in enumerate(lines) if line != ""]
    if written == []:
        raise BadLine(len(lines))
    (first, head), *rest = written
    # The first line is read first, so that the first bad line is told.
    company = company_at(first, head)
    return company, [command_at(number, line) for number, line in rest]


def company_at(number, line):
    """The COMPANY of the first line, which has that number."""
    word, blank, rest = line.partition(" ")
    try:
        company = company_in(rest)
    except BadText:
        raise BadLine(number) from None
    if word != "company" or len(company) > MOST_GATHERED:
        raise BadLine(number)
    return company


def command_at(number, line):
    """The pair (word, numbers) of a further line, which has that number."""
    word, *rest = line.split(" ")
    if word == "come_all":
        return word, people_at(number, " ".join(rest))
    numbers = numbers_in(rest)
    if numbers is None or not may_follow(word, numbers):
        raise BadLine(number)
    return word, numbers


def people_at(number, text):
    """The different people with that text, in the line with that number."""
    try:
        return people_in(text)
    except BadText:
        raise BadLine(number) from None


def may_follow(word, numbers):
    """Whether a line may consist of the word and these numbers."""
    if word == "add":
        return len(numbers) > 0 and is_ascending(numbers[1:])
    return NUMBERS_BEHIND.get(word) == len(numbers)


def is_ascending(numbers):
    """Whether each number is greater than the one before."""
    return all([low < high for low, high in zip(numbers, numbers[1:])])


def answer(gathering, word, numbers):
    """The answer of the gathering to one line."""
    try:
        return answer_in_words(gathering, word, numbers)
    except NoPerson:
        return "error NoPerson"
    except Here:
        return "error Here"
    except Early:
        return "error Early"
    except Full:
        return "error Full"
    except Stuck:
        return "error Stuck"


def answer_in_words(gathering, word, numbers):
    """The answer to a line that raises no error; the errors pass."""
    if word == "come":
        return str(gathering.come(numbers[0]))
    if word == "come_all":
        return str(gathering.come_all(numbers))
    if word == "meet":
        return people_text(gathering.meet())
    if word == "add":
        return str(gathering.add_person(numbers[1:], numbers[0]))
    if word == "need":
        return str(gathering.set_need(numbers[0], numbers[1]))
    if word == "undo":
        return "yes" if gathering.undo() else "no"
    return answer_to_query(gathering, word)


def answer_to_query(gathering, word):
    """The answer to a line that changes nothing."""
    if word == "show":
        return company_text(gathering.company())
    if word == "came":
        return people_text(gathering.came())
    if word == "next":
        return people_text(gathering.next_people())
    if word == "never":
        return people_text(gathering.will_never())
    if word == "rounds":
        return rounds_text(rounds(gathering.company()))
    return people_text(first_order(gathering.company()))


def rounds_text(groups):
    """The texts of the PEOPLE of each round."""
    if groups == []:
        return NOBODY
    return " | ".join([people_text(people) for people in groups])
