"""Points 19 and 21: deeds written as lines, and lines read to deeds."""

import random
import unittest

from lanes import LaneChecked
from overhaul.errors import NoTale
from overhaul.tale import deed_of, line_of

PAIRS = (
    (("join", "pike", 0, 5), "join pike 0 5"), (("join", "a", -1000000, -1000), "join a -1000000 -1000"),
    (("join", "0", 10, 0), "join 0 10 0"),
    (("join", "abcdefgh", 999999999999, -999999999999), "join abcdefgh 999999999999 -999999999999"),
    (("join", "1234", 5, 6), "join 1234 5 6"), (("join", "join", 1, 1), "join join 1 1"),
    (("leave", "pike"), "leave pike"), (("leave", "9"), "leave 9"), (("leave", "about"), "leave about"),
    (("turn", "pike", -3), "turn pike -3"), (("turn", "pike", 0), "turn pike 0"), (("turn", "7", 7), "turn 7 7"),
    (("about",), "about"),
    (("go", (0, 1)), "go 0/1"), (("go", (7, 2)), "go 7/2"), (("go", (1000000, 1)), "go 1000000/1"),
    (("go", (1, 60)), "go 1/60"),
    (("go", (999999999999, 999999999998)), "go 999999999999/999999999998"),
    (("watch", "w", ()), "watch w"), (("watch", "w", ("a",)), "watch w a"),
    (("watch", "1", ("b", "a", "b")), "watch 1 b a b"),
    (("watch", "watch", tuple("abcdefghijklmnop")), "watch watch a b c d e f g h i j k l m n o p"),
    (("unwatch", "w"), "unwatch w"), (("unwatch", "unwatch"), "unwatch unwatch"),
)
GOOD_LINES = ("join a 1 2", "leave a", "turn a 1", "about", "go 1/2", "watch w a", "watch w", "unwatch w")
BAD_NAMES = (
    "A", "aB", "ninesigns", "a-b", "-1", "a_b", "a.b", "~", "a\n", "\na", "a\nb", "1/2", "{a}", "''", "a,b", "+",
    "ab" * 99,
)
BAD_NUMBERS = (
    "", "-", "+", "--1", "-0", "+0", "+1", "-+1", "00", "01", "-01", "007", "-00", "000000000000",
    "1234567890123", "-1234567890123", "1000000000000", "0123456789012", "1_0", "1_000", "_1", "1_", "-_1", "1.0",
    "1e3", "0x1", "1-", "1-1", "- 1", "1 0", "1,0", "a", "one", "None", "1\n", "\n1", "1\n1", "-\n1", "1/1", "0/1", "(1)",
    "9" * 5000, "-" + "9" * 5000, "0" * 5000, "1" * 100000, "-" * 50,
)
BAD_MOMENTS = (
    "", "/", "1", "0", "1/", "/1", "1/2/3", "1//2", "/1/2", "1/2/", "2/2", "2/4", "0/2", "0/0", "1/0", "0/-1", "1/-1",
    "-1/1", "-1/2", "-1/-2", "-0/1", "0/60", "10/4", "6/9", "1/+2", "+1/2", "01/2", "1/02", "1/2\n", "\n1/2", "1\n/2",
    "1_0/3", "1.5", "a/b", "1:2", "(1,2)", "1234567890123/1", "1/1234567890123", "999999999999/999999999999",
    "9" * 5000 + "/1", "1/" + "9" * 5000, "1/" * 5000, "1/--2",
)


class Written(LaneChecked):
    def test_each_kind(self):
        for deed, line in PAIRS:
            with self.subTest(line):
                self.assertEqual(line_of(deed), line)
                self.assertIs(type(line_of(deed)), str)


class Read(LaneChecked):
    def test_each_kind(self):
        for deed, line in PAIRS:
            with self.subTest(line):
                got = deed_of(line)
                self.assertEqual(got, deed)
                self.assertIs(type(got), tuple)
                self.assertEqual([type(part) for part in got], [type(part) for part in deed])

    def test_whole_numbers(self):
        for number in (0, 1, -1, 9, 10, -10, 100, 1001, -1001, 123456789012, -123456789012, 999999999999):
            self.assertEqual(deed_of(f"turn a {number}"), ("turn", "a", number))
            self.assertEqual(deed_of(f"join a {number} {-number}"), ("join", "a", number, -number))

    def test_whether_a_lane_would_take_it_is_not_asked(self):
        for line, deed in (
            ("join a 1000001 -1001", ("join", "a", 1000001, -1001)), ("turn nobody 5000", ("turn", "nobody", 5000)),
            ("leave nobody", ("leave", "nobody")), ("go 1/61", ("go", (1, 61))), ("go 1000001/1", ("go", (1000001, 1))),
            ("watch w nobody", ("watch", "w", ("nobody",))), ("unwatch none", ("unwatch", "none")),
        ):
            self.assertEqual(deed_of(line), deed)

    def test_by_chance_there_and_back(self):
        for run in range(500):
            chance = random.Random(run)
            names = ["".join(chance.choices("abcxyz0189", k=chance.randint(1, 8))) for number in range(3)]
            top, bottom = chance.choice(((0, 1), (1, 1), (1, 7), (10 ** 12 - 1, 10), (10, 10 ** 12 - 1)))
            one, two = chance.randint(-10 ** 12 + 1, 10 ** 12 - 1), chance.randint(-12, 12)
            deed = chance.choice((
                ("join", names[0], one, two), ("leave", names[0]), ("turn", names[0], one), ("go", (top, bottom)),
                ("watch", names[0], tuple(names[:chance.randint(0, 3)])), ("unwatch", names[0]),
            ))
            self.assertEqual(deed_of(line_of(deed)), deed)


class Refused(LaneChecked):
    def assert_no_deeds(self, lines):
        for line in lines:
            with self.subTest(line[:60]):
                self.assert_refused(NoTale, deed_of, line)

    def test_bad_names_and_marks(self):
        for name in BAD_NAMES:
            self.assert_no_deeds((
                f"join {name} 1 2", f"leave {name}", f"turn {name} 1", f"watch {name}", f"watch {name} a",
                f"watch w {name}", f"watch w a {name}", f"watch w {name} a", f"unwatch {name}"))

    def test_bad_numbers(self):
        for number in BAD_NUMBERS:
            self.assert_no_deeds((f"join a {number} 1", f"join a 1 {number}", f"turn a {number}"))

    def test_bad_moments(self):
        self.assert_no_deeds([f"go {moment}" for moment in BAD_MOMENTS])

    def test_a_bad_number_in_a_moment(self):
        for number in BAD_NUMBERS:
            self.assert_no_deeds((f"go {number}/1", f"go 1/{number}"))

    def test_a_moment_of_13_figures_and_of_12(self):
        self.assertEqual(deed_of("go 100000000000/1"), ("go", (10 ** 11, 1)))
        self.assert_no_deeds(("go 1000000000000/1", "go 1/1000000000000"))

    def test_blanks(self):
        for line in GOOD_LINES:
            self.assertIsNotNone(deed_of(line))
            self.assert_no_deeds((" " + line, line + " ", "  " + line, line + "  "))
            for at in [at for at, sign in enumerate(line) if sign == " "]:
                first, last = line[:at], line[at + 1:]
                self.assert_no_deeds((f"{first}  {last}", f"{first}\n{last}", f"{first} \n{last}", f"{first}\n {last}"))
        self.assert_no_deeds((" ", "  ", "go 1 /2", "go 1/ 2", "go 1 / 2", "turn a - 1", "join a 1 2 3"))

    def test_an_empty_line_and_line_feeds(self):
        self.assert_no_deeds(("", "\n", "\n\n", "about\nabout", "leave a\nleave b", "leave\na"))
        for line in GOOD_LINES:
            self.assert_no_deeds((line + "\n", "\n" + line, line + "\n" + line))

    def test_words_too_few_and_too_many(self):
        self.assert_no_deeds((
            "join", "join a", "join a 1", "join a 1 2 3", "join 1 2", "leave", "leave a b", "turn", "turn a", "turn 1",
            "turn a 1 2", "about a", "about about", "about 1", "go", "go 1/2 3/4", "go 1 2", "watch", "unwatch",
            "unwatch w v", "unwatch w a b"))

    def test_unknown_words_and_capital_letters(self):
        self.assert_no_deeds((
            "Join a 1 2", "JOIN a 1 2", "Leave a", "TURN a 1", "About", "ABOUT", "Go 1/2", "Watch w", "UNWATCH w",
            "abou", "aboutt", "go_to 1/2", "wat w", "w", "a", "0", "1/2", "none", "~", "join,a,1,2", "('about',)",
            "#about", "un watch w", "goo 1/2"))


if __name__ == "__main__":
    unittest.main()
