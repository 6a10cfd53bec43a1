"""Point 15, with the general rules of points 2 and 3."""

import random
import re
import unittest

from enoughcame.errors import BadLine
from enoughcame.sheet import answers
from enoughcame.texts import company_text
from support import CHAIN, FIVE, FOUR, MIXED, PAIR, Model, SharedTest, outcome, random_company, stuck_by_trying

EXAMPLES = r'''
    >>> answers("company 0: | 1: 0 2 | 1: 1 3 | 0:\ncome 0\nmeet\nadd 2 0 3\nnext\nneed 4 3\nnever\ncome 4\nundo\nrounds\nfirst")
    ['1', '1 3', '4', '2 4', '2', '4', 'error Early', 'yes', '0 3 | 1 2 4', '0 1 2 3 4']
    >>> answers("company 0:\ncome x")
    raises BadLine(number=1)
'''

NUMBER = "(0|[1-9][0-9]{0,9})"
NUMBERS = f"{NUMBER}( {NUMBER})*"

# One line of each kind that is written as it should be, with and without what may be left out.
WELL_WRITTEN = ("come 0", "come 9999999999", "come_all -", "come_all 0", "come_all 3 0 2", "come_all 9999999999 5",
                "meet", "add 0", "add 9999999999", "add 2 0", "add 2 0 3", "add 0 5 9999999999", "need 0 0", "need 3 2",
                "need 9999999999 9999999999", "undo", "show", "came", "next", "never", "rounds", "first")
QUERIES = ("show", "came", "next", "never", "rounds", "first")
WORDS_ALONE = ("meet", "undo") + QUERIES

FREE_20 = "company " + company_text((((), 0),) * 20)
FREE_21 = "company " + company_text((((), 0),) * 21)


def sheet(company, *lines):
    """The text of a sheet."""
    return "\n".join(["company " + company_text(company), *lines])


def ascending(words):
    numbers = [int(word) for word in words]
    return numbers == sorted(set(numbers))


def is_well_written(line):
    """Whether a line behind the first one is written as it should be, as patterns read it."""
    if line in WORDS_ALONE or re.fullmatch(f"come {NUMBER}|need {NUMBER} {NUMBER}|come_all -", line):
        return True
    words = line.split(" ")
    if re.fullmatch(f"come_all {NUMBERS}", line):
        return len(set(words[1:])) == len(words[1:])
    return bool(re.fullmatch(f"add {NUMBERS}", line)) and ascending(words[2:])


def written(people):
    return " ".join([str(person) for person in people]) or "-"


def first_order_of(company):
    """The first order, found by always taking the least person who can come."""
    model = Model(company)
    while len(model.row) < len(company):
        model.come(min(model.able()))
    return model.row


def operation_of(word, numbers):
    """The name of the operation of a line, and what it is given."""
    if word == "come_all":
        return "come_all", [numbers]
    if word == "add":
        return "add_person", [numbers[1:], numbers[0]]
    return dict(need="set_need").get(word, word), numbers


def rounds_of(company):
    model, groups = Model(company), []
    while model.able():
        groups.append(written(model.meet()))
    return " | ".join(groups) or "-"


def answer_to_query(model, word):
    """What a line is answered that changes nothing."""
    company = tuple(model.entries)
    stuck = stuck_by_trying(company)
    return {"show": company_text(company), "came": written(model.row), "next": written(model.able()),
            "never": written(stuck), "rounds": rounds_of(company),
            "first": "error Stuck" if stuck else written(first_order_of(company))}[word]


def answer_by_model(states, line):
    """What a line is answered; states are the models after each operation in effect."""
    word, *rest = line.split(" ")
    if word in QUERIES:
        return answer_to_query(states[-1], word)
    if word == "undo":
        if len(states) == 1:
            return "no"
        states.pop()
        return "yes"
    model = states[-1].twin()
    result = outcome(model, *operation_of(word, [int(part) for part in rest if part != "-"]))
    if isinstance(result, str):
        return "error " + re.match(r"raises (\w+)", result).group(1)
    states.append(model)
    return written(result) if word == "meet" else str(result)


def random_line(source, many):
    """A line that is written as it should be, for a company of that many."""
    people = [source.randrange(many + 1) for _ in range(source.randrange(4))]
    return source.choice([
        *WORDS_ALONE, "meet", "undo", f"come {source.randrange(many + 1)}", f"come {source.randrange(many + 1)}",
        f"come_all {written(dict.fromkeys(people))}",
        " ".join(["add", str(source.randrange(3)), *[str(person) for person in sorted(set(people))]]),
        f"need {source.randrange(many + 1)} {source.randrange(3)}"])


class SheetTest(SharedTest):
    def assert_bad(self, number, *texts):
        for text in texts:
            with self.subTest(text=text):
                self.assert_raises(BadLine, number, answers, text)


class Examples(SharedTest):
    def test_as_they_stand_in_the_document(self):
        self.assert_examples(EXAMPLES, 2, dict(answers=answers))


class Answers(SheetTest):
    """Every kind of line with its answer and each error's answer."""

    def test_no_lines(self):
        for company in ((), FOUR, PAIR):
            self.assert_same(answers(sheet(company)), [])

    def test_come(self):
        self.assert_same(answers(sheet(FIVE, "come 3", "come 2", "come 2", "come 5", "come 1", "come 0", "came")),
                         ["1", "2", "error Here", "error NoPerson", "3", "4", "3 2 1 0"])
        self.assert_same(answers(sheet(FIVE, "come 4", "come 9999999999", "came")),
                         ["error Early", "error NoPerson", "-"])

    def test_come_all(self):
        self.assert_same(answers(sheet(FIVE, "come_all 3 2 4", "come_all -", "came", "come_all 1 0", "came")),
                         ["3", "3", "3 2 4", "5", "3 2 4 1 0"])
        self.assert_same(answers(sheet(FIVE, "come_all 0 3 4", "come_all 0 5", "come 0", "come_all 3 0", "came")),
                         ["error Early", "error NoPerson", "1", "error Here", "0"])
        self.assert_same(answers(sheet((), "come_all -", "undo", "undo")), ["0", "yes", "no"])

    def test_meet(self):
        self.assert_same(answers(sheet(FIVE, "meet", "meet", "meet", "meet", "undo", "undo", "came")),
                         ["0 3", "1 2", "4", "-", "yes", "yes", "0 3 1 2"])

    def test_add(self):
        self.assert_same(answers(sheet((), "add 0", "add 1 0", "add 2 0 1", "add 0 3", "show", "undo", "show")),
                         ["0", "1", "2", "error NoPerson", "0: | 1: 0 | 2: 0 1", "yes", "0: | 1: 0"])
        self.assert_same(answers(sheet(FOUR, "add 9999999999", "never")), ["4", "4"])
        self.assert_same(answers(sheet((((), 0),) * 19, "add 0 0 18", "add 0", "add 0 20", "add 0 0 19", "undo",
                                       "add 7")),
                         ["19", "error Full", "error NoPerson", "error Full", "yes", "19"])

    def test_need(self):
        self.assert_same(answers(sheet(FIVE, "need 4 7", "need 4 0", "need 5 1", "come 0", "need 0 1", "need 4 3",
                                       "undo", "show")),
                         ["2", "7", "error NoPerson", "1", "error Here", "0", "yes",
                          "0: | 1: 0 2 | 1: 1 3 | 0: | 0: 1 2 3"])

    def test_undo(self):
        self.assert_same(answers(sheet(FOUR, "undo", "come 0", "come 0", "undo", "undo", "came")),
                         ["no", "1", "error Here", "yes", "no", "-"])

    def test_show_came_next_and_never(self):
        self.assert_same(answers(sheet((), "show", "came", "next", "never")), ["-"] * 4)
        self.assert_same(answers(sheet(MIXED, "show", "came", "next", "never", "meet", "came", "next", "need 1 1",
                                       "next", "never")),
                         ["0: | 2: 0 2 | 1: 1 | 2: 0 | 1: 3", "-", "0", "1 2 3 4", "0", "0", "-", "2", "1", "3 4"])

    def test_rounds(self):
        self.assert_same(answers(sheet((), "rounds")), ["-"])
        self.assert_same(answers(sheet(PAIR, "rounds", "need 1 0", "rounds")), ["-", "1", "1 | 0"])
        self.assert_same(answers(sheet(FIVE, "rounds", "meet", "meet", "rounds")), ["0 3 | 1 2 | 4", "0 3", "1 2",
                                                                                    "0 3 | 1 2 | 4"])

    def test_first(self):
        self.assert_same(answers(sheet((), "first")), ["-"])
        self.assert_same(answers(sheet(FIVE, "come 3", "first", "need 4 4", "first", "undo", "first")),
                         ["1", "0 1 2 3 4", "2", "error Stuck", "yes", "0 1 2 3 4"])
        self.assert_same(answers(sheet(CHAIN, "first")), [" ".join([str(person) for person in range(20)])])

    def test_an_error_changes_nothing(self):
        for line in ("come 0", "come 9", "come 4", "come_all 1 4 9", "add 0 9", "need 0 1", "need 9 1"):
            text = sheet(FIVE, "come 0", *QUERIES, line, *QUERIES, "undo", "undo")
            found = answers(text)
            self.assertTrue(found[7].startswith("error "), line)
            self.assert_same(found[8:14], found[1:7])
            self.assert_same(found[14:], ["yes", "no"])

    def test_sixty_lines(self):
        lines = ["need 4 " + str(need) for need in range(59)]
        self.assert_same(answers(sheet(FIVE, *lines)), ["2"] + [str(need) for need in range(58)])
        self.assert_same(answers(sheet(FIVE, *lines[:29], *["undo"] * 30))[29:], ["yes"] * 29 + ["no"])

    def test_random_sheets(self):
        source = random.Random(15)
        seen = set()
        for _ in range(150):
            company = random_company(source, source.randrange(7))
            lines = [random_line(source, len(company) + 1) for _ in range(20)]
            states = [Model(company)]
            expected = [answer_by_model(states, line) for line in lines]
            self.assert_same(answers(sheet(company, *lines)), expected)
            seen.update(expected)
        self.assertLess({"error NoPerson", "error Here", "error Early", "error Stuck", "yes", "no", "-"}, seen)

    def test_the_same_text_again(self):
        text = sheet(FIVE, "meet", "meet", "came")
        self.assert_same(answers(text), ["0 3", "1 2", "0 3 1 2"])
        self.assert_belongs_to_the_caller(answers, text)

    def test_by_name(self):
        self.assert_same(answers(text="company 0:\nmeet"), ["0"])
        self.assert_raises(BadLine, 0, answers, text="x")


class EmptyLines(SheetTest):
    def test_skipped_wherever_they_stand(self):
        for text in ("company 0:\nmeet\ncame\n", "company 0:\nmeet\ncame\n\n\n", "\ncompany 0:\nmeet\ncame",
                     "\n\n\ncompany 0:\n\n\nmeet\n\ncame", "\ncompany 0:\n\nmeet\n\ncame\n"):
            self.assert_same(answers(text), ["0", "0"])
        self.assert_same(answers("\n\ncompany -\n\n"), [])

    def test_counted(self):
        self.assert_bad(3, "\n\n\nx", "company 0:\n\n\nx", "\ncompany 0:\nmeet\nx", "\n\n\ncompany x\nmeet",
                        "\n\n\nmeet\ncompany 0:")

    def test_empty_lines_alone(self):
        self.assert_bad(1, "")
        self.assert_bad(2, "\n")
        self.assert_bad(3, "\n\n")
        self.assert_bad(60, "\n" * 59)

    def test_a_blank_is_a_character(self):
        self.assert_bad(0, " ", " \n", "  \ncompany 0:")
        self.assert_bad(1, "\n ", "company 0:\n ", "company 0:\n \nmeet", "\n \n")


class FirstLine(SheetTest):
    def test_that_is_none(self):
        self.assert_bad(0, "company", "company ", "Company 0:", "company  0:", " company 0:", "company 0: ",
                        "company0:", "company 0", "company x", "company 0: |", "company 0: | 1: 1", "company 1: 0",
                        "company 00:", "company 10000000000:", "company 0: | 1: 0 0", "company 0: | 0: | 1: 1 0",
                        "company -1", "company --", "company - -", "0:", "-", "companies 0:", "company company 0:",
                        "company\t0:")

    def test_that_is_another_one(self):
        for line in WELL_WRITTEN:
            self.assert_bad(0, line, f"{line}\ncompany 0:")

    def test_twenty_people_and_more(self):
        self.assert_same(answers(FREE_20 + "\nmeet\nadd 0"), [written(range(20)), "error Full"])
        self.assert_bad(0, FREE_21, FREE_21 + "\nmeet", FREE_21 + "\nx")
        self.assert_bad(1, "\n" + FREE_21)

    def test_ten_digits(self):
        self.assert_same(answers("company 9999999999:\nnever\nneed 0 0"), ["0", "9999999999"])

    def test_only_once(self):
        self.assert_bad(1, "company 0:\ncompany 0:")
        self.assert_bad(2, "company 0:\nmeet\ncompany -")


class FurtherLines(SheetTest):
    def assert_line(self, line):
        """The line is bad, or not, as the patterns read it."""
        text = "company 0:\n" + line
        if line == "" or is_well_written(line):
            self.assertEqual(len(answers(text)), 1 if line else 0, line)
        else:
            self.assert_bad(1, text)

    def assert_bad_lines(self, *lines):
        for line in lines:
            self.assertFalse(is_well_written(line), line)
            self.assert_bad(1, "company 0:\n" + line, "company 0:\n" + line + "\nmeet\n")
            self.assert_bad(4, "\n\ncompany 0:\nmeet\n" + line + "\n\nx")

    def test_well_written(self):
        for line in WELL_WRITTEN:
            self.assertTrue(is_well_written(line), line)
            self.assertEqual(len(answers("company 0:\n" + line)), 1)

    def test_a_word_too_many(self):
        self.assert_bad_lines(*[f"{line} x" for line in WELL_WRITTEN], *[f"{line} -" for line in WELL_WRITTEN])
        self.assert_bad_lines(*[f"{word} 0" for word in WORDS_ALONE], "come 0 1", "need 0 1 2", "come_all - 0",
                              "come_all 0 -", "come_all - -", "add 2 -", "add - 0")

    def test_a_word_missing(self):
        self.assert_bad_lines("come", "come_all", "add", "need", "need 0", "0", "0 1", "-", "come -", "need - 0")

    def test_two_blanks_or_one_at_either_end(self):
        for line in WELL_WRITTEN:
            self.assert_bad_lines(" " + line, line + " ", "  " + line, line + "  ")
            at = line.find(" ")
            while at >= 0:
                self.assert_bad_lines(line[:at] + " " + line[at:], line[:at] + "\t" + line[at + 1:])
                at = line.find(" ", at + 1)

    def test_numbers_that_are_none(self):
        for word in ("00", "01", "007", "10000000000", "99999999999", "00000000000", "x", "-1", "+1", "1x", "1.0", "1,",
                     "1_0", "0x1", "--", "_", ":", "|", "1:", "True"):
            self.assert_bad_lines(f"come {word}", f"come_all {word}", f"come_all 5 {word}", f"come_all {word} 5",
                                  f"add {word}", f"add {word} 5", f"add 1 {word}", f"add 1 0 {word}", f"need {word} 1",
                                  f"need 1 {word}")

    def test_a_person_twice(self):
        self.assert_bad_lines("come_all 0 0", "come_all 1 2 1", "come_all 3 4 5 5", "add 1 0 0", "add 1 0 2 2")

    def test_friends_not_ascending(self):
        self.assert_bad_lines("add 1 2 0", "add 1 0 2 1", "add 1 10 9", "add 0 9999999999 5")

    def test_the_need_stands_apart_from_the_friends(self):
        self.assert_same(answers(sheet(FOUR, "add 3 0 3", "add 0 0", "show")),
                         ["4", "5", "0: | 1: 0 2 | 1: 1 3 | 0: | 3: 0 3 | 0: 0"])

    def test_other_words(self):
        self.assert_bad_lines("Meet", "MEET", "meets", "mee", "come_all-", "comeall 0", "come_ 0", "add_person 0",
                              "set_need 0 1", "will_never", "next_people", "waiting", "operations", "log", "twin",
                              "last", "error", "yes", "x", "company 0:", "company -", "first_order", "come0", "#")

    def test_every_change_by_one_sign(self):
        for line in WELL_WRITTEN:
            for at in range(len(line) + 1):
                self.assert_line(line[:at] + line[at + 1:])
                for sign in "01 -x_":
                    self.assert_line(line[:at] + sign + line[at:])
                    self.assert_line(line[:at] + sign + line[at + 1:])

    def test_the_first_of_several(self):
        self.assert_bad(2, "company 0:\nmeet\nx\nmeet\ny", "\ncompany 0:\ncome 0 0\nx")
        self.assert_bad(0, "x\ncompany 0:\ny", "company x\ny")

    def test_before_anything_is_done(self):
        # The lines before the bad one would be answered by errors.
        self.assert_bad(3, "company 0:\ncome 7\nneed 7 0\nx", "company 1:\nfirst\ncome 0\ncome 00")

    def test_sixty_lines(self):
        for at in (1, 30, 59):
            lines = ["company 0:"] + ["meet"] * 59
            lines[at] = "meet 0"
            self.assert_bad(at, "\n".join(lines))


if __name__ == "__main__":
    unittest.main()
