"""Points 18 to 21: desks written as the lines of their journals, and texts read back to desks."""

import random
import unittest

from desks import DeskChecked, all_desk_told, desk_of
from lanes import refusal_of
from overhaul.desk import Desk
from overhaul.errors import NoTale
from overhaul.tale import read_back, written

DEEDS = (
    ("join", "pike", 0, 5), ("join", "carp", 10, 2), ("watch", "w", ("pike", "carp", "pike")), ("watch", "v", ()),
    ("go", (7, 2)), ("turn", "pike", -1), ("about",), ("unwatch", "v"), ("watch", "v", ("carp",)), ("go", (50, 3)),
    ("join", "0", -7, 1000), ("leave", "carp"), ("go", (50, 3)), ("go", (1201, 60)),
)
TEXT = """join pike 0 5
join carp 10 2
watch w pike carp pike
watch v
go 7/2
turn pike -1
about
unwatch v
watch v carp
go 50/3
join 0 -7 1000
leave carp
go 50/3
go 1201/60"""
ONWARD = (
    ("about",), ("go", (25, 1)), ("watch", "u", ("0", "pike")), ("turn", "0", -3), ("go", (99, 1)), ("unwatch", "w"),
    ("leave", "0"),
)


class Written(DeskChecked):
    def test_a_desk_without_deeds(self):
        self.assertEqual(written(Desk()), "")

    def test_the_lines_of_the_journal(self):
        self.assertEqual(written(desk_of(DEEDS[0])), "join pike 0 5")
        self.assertEqual(written(desk_of(("about",), ("about",))), "about\nabout")
        self.assertEqual(written(desk_of(*DEEDS)), TEXT)
        row = Desk()
        row.do_all(list(DEEDS))
        self.assertEqual(written(row), TEXT)

    def test_refused_deeds_are_not_written(self):
        desk = desk_of(DEEDS[0])
        for deed in (("join", "pike", 0, 0), ("leave", "nobody"), ("go", (2, 2))):
            self.assertIsNotNone(refusal_of(desk.do, deed))
        self.assertIsNotNone(refusal_of(desk.do_all, [("about",), ("leave", "nobody")]))
        self.assertEqual(written(desk), "join pike 0 5")

    def test_writing_changes_nothing(self):
        desk = desk_of(*DEEDS)
        ahead = all_desk_told(desk)
        written(desk)
        self.assertEqual(all_desk_told(desk), ahead)


class ReadBack(DeskChecked):
    def test_the_empty_text(self):
        desk = read_back("")
        self.assertIs(type(desk), Desk)
        self.assertEqual(all_desk_told(desk), all_desk_told(Desk()))
        desk.do(("join", "a", 0, 1))
        self.assertEqual(read_back("").journal(), [])

    def test_a_desk_alike_in_all_things(self):
        desk, again = desk_of(*DEEDS), read_back(TEXT)
        self.assertIs(type(again), Desk)
        self.assertEqual(all_desk_told(again), all_desk_told(desk))
        self.assertEqual(again.journal(), list(DEEDS))
        self.assertEqual(written(again), TEXT)

    def test_each_beginning_of_a_tale(self):
        desk = Desk()
        for deed in DEEDS:
            desk.do(deed)
            again = read_back(written(desk))
            self.assertEqual(all_desk_told(again), all_desk_told(desk))
            self.assertEqual(written(again), written(desk))

    def test_it_goes_on_just_as_the_other(self):
        desk = desk_of(*DEEDS)
        again = read_back(written(desk))
        for deed in ONWARD:
            self.assertEqual(again.do(deed), desk.do(deed))
            self.assertEqual(all_desk_told(again), all_desk_told(desk))
        self.assertEqual(written(again), written(desk))

    def test_neither_changes_the_other(self):
        desk = desk_of(*DEEDS)
        again = read_back(written(desk))
        ahead = all_desk_told(desk)
        again.do_all(list(ONWARD))
        self.assertEqual(all_desk_told(desk), ahead)

    def test_many_deeds(self):
        for run in range(10):
            chance = random.Random(run)
            desk, clock = Desk(), 0
            for number in range(300):
                name, mark = chance.choice("abcdefghijklmnopq"), chance.choice("stuvwxyz")
                clock += chance.randint(0, 2)
                place, pace = chance.randint(-9, 9), chance.randint(-9, 9)
                group = tuple(chance.choices(desk.lane().order() or "a", k=3))
                refusal_of(desk.do, chance.choice((
                    ("join", name, place, pace), ("turn", name, pace), ("about",), ("go", (clock, 1)),
                    ("watch", mark, group), ("unwatch", mark), ("leave", name) if number % 5 == 0 else ("about",))))
            again = read_back(written(desk))
            self.assertGreater(len(again.journal()), 100)
            self.assertEqual(all_desk_told(again), all_desk_told(desk))
            self.assertEqual(written(again), written(desk))


class Refused(DeskChecked):
    def assert_no_tale(self, text):
        with self.subTest(text[:60]):
            self.assert_refused(NoTale, read_back, text)

    def test_a_line_feed_behind_the_last_line(self):
        for text in (TEXT, "about", "join a 0 1\nleave a"):
            self.assertIs(refusal_of(read_back, text), None)
            self.assert_no_tale(text + "\n")
            self.assert_no_tale("\n" + text)
        self.assert_no_tale("\n")
        self.assert_no_tale("\n\n")

    def test_an_empty_line_between(self):
        self.assert_no_tale(TEXT.replace("\nabout", "\n\nabout"))
        self.assert_no_tale("about\n\nabout")

    def test_an_odd_line(self):
        lines = TEXT.split("\n")
        for at in range(len(lines) + 1):
            for odd in ("About", " about", "about ", "go 2/2", "go 01/2", "join a 1", "watch", "leave A", " ",
                        "join a 1234567890123 0"):
                self.assert_no_tale("\n".join([*lines[:at], odd, *lines[at:]]))

    def test_a_deed_that_is_refused_where_it_stands(self):
        lines = TEXT.split("\n")
        for at in range(len(lines) + 1):
            for bad in ("join pike 1000001 0", "join new 0 1001", "leave nobody", "turn nobody 1", "go 1/61",
                        "go 1000001/1", "watch new nobody", "unwatch none"):
                self.assert_no_tale("\n".join([*lines[:at], bad, *lines[at:]]))

    def test_each_refusal_of_a_desk_becomes_no_tale(self):
        for text in (
            "join a 0 0\njoin a 0 0", "join a 0 0\nleave a\njoin a 0 0", "join a 0 0\nleave a\nleave a",
            "join a 0 0\nturn a 1001", "go 2/1\ngo 1/1", "go 1/61", "watch w\nwatch w", "watch w a", "unwatch w",
            "watch w\nunwatch w\nunwatch w", "\n".join(f"watch w{number}" for number in range(7)),
            "\n".join(f"join n{number} 0 0" for number in range(13)),
        ):
            self.assert_no_tale(text)
        self.assertEqual(len(read_back("\n".join(f"watch w{number}" for number in range(6))).journal()), 6)
        self.assertEqual(len(read_back("\n".join(f"join n{number} 0 0" for number in range(12))).journal()), 12)

    def test_an_odd_line_behind_a_deed_that_is_refused(self):
        self.assert_no_tale("leave nobody\nodd")
        self.assert_no_tale("odd\nleave nobody")

    def test_other_texts(self):
        for text in (" ", "~", "hello", "about about", "about;about", "1", "\nabout\n", "{}", "about\\nabout"):
            self.assert_no_tale(text)


if __name__ == "__main__":
    unittest.main()
