"""Texts of companies and of people."""

from enoughcame.companies import is_company
from enoughcame.errors import BadText

MOST_DIGITS = 10
NOBODY = "-"


def company_text(company):
    """The text of the COMPANY."""
    if len(company) == 0:
        return NOBODY
    return " | ".join([entry_text(friends, need) for friends, need in company])


def people_text(people):
    """The text of the people, in their order."""
    if len(people) == 0:
        return NOBODY
    return " ".join([str(person) for person in people])


def company_in(text):
    """The COMPANY with that text."""
    if text == NOBODY:
        return ()
    company = tuple([entry_in(part) for part in text.split(" | ")])
    if not is_company(company):
        raise BadText(text)
    return company


def people_in(text):
    """The tuple of different numbers with that text."""
    if text == NOBODY:
        return ()
    numbers = numbers_in(text.split(" "))
    if numbers is None or len(set(numbers)) < len(numbers):
        raise BadText(text)
    return tuple(numbers)


def entry_text(friends, need):
    """The text of one person of a company."""
    return " ".join([f"{need}:"] + [str(friend) for friend in friends])


def entry_in(text):
    """The pair (friends, need) with that text; None if it is not written so."""
    first, *words = text.split(" ")
    if not first.endswith(":"):
        return None
    numbers = numbers_in([first[:-1]] + words)
    if numbers is None:
        return None
    return tuple(numbers[1:]), numbers[0]


def numbers_in(words):
    """The list of the numbers that are written by the words; None if a word writes none."""
    if not all([is_written_number(word) for word in words]):
        return None
    return [int(word) for word in words]


def is_written_number(word):
    """Whether the word is a number as it stands in texts."""
    if not word.isdigit() or len(word) > MOST_DIGITS:
        return False
    return word == "0" or not word.startswith("0")
