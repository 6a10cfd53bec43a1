"""Point 14, with the general rules of points 2 and 3."""

import itertools
import random
import re
import unittest

from enoughcame.companies import is_company
from enoughcame.errors import BadText
from enoughcame.texts import company_in, company_text, people_in, people_text
from support import FIVE, FOUR, SharedTest, as_lists, list_for_one_tuple, random_company

EXAMPLES = """
    >>> company_text(four), people_text((3, 0, 2)), company_in("0: | 1: 0")
    ('0: | 1: 0 2 | 1: 1 3 | 0:', '3 0 2', (((), 0), ((0,), 1)))
    >>> company_in("1: 0")
    raises BadText(text='1: 0')
"""

NUMBER = "(0|[1-9][0-9]{0,9})"

COMPANIES = {
    "-": (),
    "0:": (((), 0),),
    "7:": (((), 7),),
    "100:": (((), 100),),
    "1: 1 | 1: 0": (((1,), 1), ((0,), 1)),
    "0: | 1: 0 2 | 1: 1 3 | 0: | 2: 1 2 3": FIVE,
}

PEOPLE = {"-": (), "0": (0,), "12": (12,), "0 1 2": (0, 1, 2), "3 0 2": (3, 0, 2), "19 10 1": (19, 10, 1)}

# Each is wrong, as a word, wherever a number stands.
NO_NUMBERS = ("", "00", "01", "007", "0000000001", "10000000000", "00000000000", "99999999999", "-1", "-0", "+1", "x",
              "1x", "x1", "1.0", "1,", "1_0", "0x1", "1e1", "-", "|", ":", "1:", ":1", "\t", "\n1", "1\n", "1\t",
              "\x001", "\x7f", "1\r", "1\x0b", "1\x1c", "True", "None", "1 ", " 1")


def changed_by_one_sign(text):
    """All texts in which one sign is left out, put in or replaced."""
    for at in range(len(text) + 1):
        yield text[:at] + text[at + 1:]
        for sign in "012 :|-x\n":
            yield text[:at] + sign + text[at:]
            yield text[:at] + sign + text[at + 1:]


def expected_people(text):
    """The people of a text as a pattern reads it, None if there are none."""
    if text == "-":
        return ()
    if not re.fullmatch(f"{NUMBER}( {NUMBER})*", text):
        return None
    numbers = tuple([int(word) for word in text.split()])
    return numbers if len(set(numbers)) == len(numbers) else None


def expected_company(text):
    """The company of a text as a pattern reads it, None if there is none."""
    if text == "-":
        return ()
    entry = f"{NUMBER}:( {NUMBER})*"
    if not re.fullmatch(rf"{entry}( \| {entry})*", text):
        return None
    company = []
    for part in text.split("|"):
        need, *friends = [int(word) for word in re.findall("[0-9]+", part)]
        company.append((tuple(friends), need))
    return tuple(company) if is_company(tuple(company)) else None


class Examples(SharedTest):
    def test_as_they_stand_in_the_document(self):
        names = dict(company_text=company_text, people_text=people_text, company_in=company_in)
        self.assert_examples(EXAMPLES, 2, names)


class Written(SharedTest):
    def test_companies(self):
        for text, company in COMPANIES.items():
            with self.subTest(text=text):
                self.assert_same(company_text(company), text)
                self.assert_same(company_text(as_lists(company)), text)

    def test_people(self):
        for text, people in PEOPLE.items():
            with self.subTest(text=text):
                self.assert_same(people_text(people), text)
                self.assert_same(people_text(list(people)), text)

    def test_lists_for_tuples(self):
        for company in list_for_one_tuple(FOUR):
            self.assert_same(company_text(company), "0: | 1: 0 2 | 1: 1 3 | 0:")

    def test_by_name(self):
        self.assert_same(company_text(company=FOUR), "0: | 1: 0 2 | 1: 1 3 | 0:")
        self.assert_same(people_text(people=(2, 1)), "2 1")

    def test_arguments_unchanged(self):
        company, people = as_lists(FOUR), [3, 0, 2]
        company_text(company)
        people_text(people)
        self.assert_same((company, people), (as_lists(FOUR), [3, 0, 2]))


class ReadBack(SharedTest):
    def test_companies(self):
        source = random.Random(14)
        for many in list(range(21)) * 3:
            company = random_company(source, many)
            self.assert_same(company_in(company_text(company)), company)
            self.assert_same(company_in(company_text(as_lists(company))), company)

    def test_people(self):
        for many in range(5):
            for people in itertools.permutations(range(8, 13), many):
                self.assert_same(people_in(people_text(people)), people)

    def test_larger_than_the_bounds(self):
        company = tuple([(tuple([other for other in range(60) if other != person]), 9999999999)
                         for person in range(60)])
        self.assert_same(company_in(company_text(company)), company)
        self.assert_same(people_in(people_text(range(500))), tuple(range(500)))


class CompanyIn(SharedTest):
    def assert_bad(self, *texts):
        for text in texts:
            with self.subTest(text=text):
                self.assert_raises(BadText, text, company_in, text)

    def test_companies(self):
        for text, company in COMPANIES.items():
            with self.subTest(text=text):
                self.assert_same(company_in(text), company)

    def test_ten_and_eleven_digits(self):
        self.assert_same(company_in("9999999999:"), (((), 9999999999),))
        self.assert_same(company_in("1000000000: 1 | 0:"), (((1,), 1000000000), ((), 0)))
        self.assert_bad("10000000000:", "99999999999:", "0: | 10000000000: 0", "0: 10000000000 | 0:")

    def test_leading_zeros(self):
        self.assert_bad("00:", "01:", "0: | 01: 0", "0: | 1: 00", "0: 01 | 0:", "0000000001:")

    def test_no_numbers(self):
        for word in NO_NUMBERS:
            self.assert_bad(f"{word}:", f"0: | {word}: 0", f"1: {word} | 0:", f"0: | 1: 0 {word} | 0:",
                            f"0: | 1: {word} 2 | 0:")

    def test_the_empty_text(self):
        self.assert_bad("", " ", "  ", "\n")

    def test_blanks_at_the_ends(self):
        self.assert_bad(" 0:", "0: ", "0: | 1: 0 ", " -", "- ", "\t0:", "0:\t", "0:\n", "\n0:", "-\n")

    def test_two_blanks(self):
        self.assert_bad("0:  | 1: 0", "0: |  1: 0", "0: | 1:  0", "0: | 1: 0  2 | 0:", "0: | 1: 0 2  | 0:",
                        "0: | 1: 0 2 |  0:")

    def test_missing_signs(self):
        self.assert_bad("0", "0 | 1: 0", "0: | 1 0", "0: 1: 0", "0:| 1: 0", "0: |1: 0", "0:|1: 0", "0: | 1:0", ":",
                        ": 0", "0: | : 0", "|", " | ")

    def test_extra_signs(self):
        self.assert_bad("0::", "0:: | 1: 0", "0: :", "0: | | 1: 0", "0: || 1: 0", "0: |", "0: | ", "| 0:", " | 0:",
                        "0: | 1: 0,", "0: -", "- | 0:", "0: | -", "--", "- -", "0: | 1: -", "(0:)", "0: | 1: 0;")

    def test_friends_not_ascending(self):
        self.assert_bad("0: | 1: 2 0 | 0:", "2: 2 1 | 0: | 0:")

    def test_number_twice(self):
        self.assert_bad("0: | 1: 0 0", "0: | 1: 0 0 2 | 0:", "0: | 1: 0 2 2 | 0:", "0: | 1: 0 2 0 | 0:")

    def test_person_in_their_own_list(self):
        self.assert_bad("0: 0", "0: | 1: 1", "0: | 1: 0 1", "0: 0 1 | 0:")

    def test_friend_who_is_not_there(self):
        self.assert_bad("1: 0", "0: 1", "0: 2 | 0:", "0: | 1: 0 2", "0: 9999999999 | 0:")

    def test_every_change_by_one_sign(self):
        for company in (FOUR, (((), 0),), (((1,), 10), ((0,), 1)), ()):
            for text in changed_by_one_sign(company_text(company)):
                expected = expected_company(text)
                if expected is None:
                    self.assert_bad(text)
                else:
                    self.assert_same(company_in(text), expected)

    def test_every_text_of_few_signs(self):
        for length in range(7):
            for signs in itertools.product("01: |-" if length < 6 else "01: ", repeat=length):
                text = "".join(signs)
                expected = expected_company(text)
                if expected is None:
                    self.assert_raises(BadText, text, company_in, text)
                else:
                    self.assert_same(company_in(text), expected)

    def test_by_name(self):
        self.assert_same(company_in(text="0: | 1: 0"), (((), 0), ((0,), 1)))
        self.assert_raises(BadText, "x", company_in, text="x")


class PeopleIn(SharedTest):
    def assert_bad(self, *texts):
        for text in texts:
            with self.subTest(text=text):
                self.assert_raises(BadText, text, people_in, text)

    def test_people(self):
        for text, people in PEOPLE.items():
            with self.subTest(text=text):
                self.assert_same(people_in(text), people)

    def test_ten_and_eleven_digits(self):
        self.assert_same(people_in("9999999999 0 1000000000"), (9999999999, 0, 1000000000))
        self.assert_bad("10000000000", "0 10000000000", "99999999999 0")

    def test_no_numbers(self):
        for word in NO_NUMBERS:
            self.assert_bad(f"{word} 5", f"5 {word}", f"5 {word} 6")
            if word != "-":
                self.assert_bad(word)

    def test_blanks(self):
        self.assert_bad(" ", "  ", " 0", "0 ", "0  1", " - ", "- ", " -", "0\t1", "0\n1", "0 1\n")

    def test_dash_beside_others(self):
        self.assert_bad("- 0", "0 -", "- -", "--", "-0")

    def test_number_twice(self):
        self.assert_bad("0 0", "1 2 1", "3 4 5 5", "9999999999 9999999999")

    def test_every_text_of_few_signs(self):
        for length in range(7):
            for signs in itertools.product("01 -", repeat=length):
                text = "".join(signs)
                expected = expected_people(text)
                if expected is None:
                    self.assert_raises(BadText, text, people_in, text)
                else:
                    self.assert_same(people_in(text), expected)

    def test_every_ascii_character(self):
        for code in range(128):
            for text in (chr(code), "1" + chr(code), chr(code) + "1", "1" + chr(code) + "2"):
                expected = expected_people(text)
                if expected is None:
                    self.assert_bad(text)
                else:
                    self.assert_same(people_in(text), expected)

    def test_by_name(self):
        self.assert_same(people_in(text="2 1"), (2, 1))
        self.assert_raises(BadText, "2 2", people_in, text="2 2")


if __name__ == "__main__":
    unittest.main()
