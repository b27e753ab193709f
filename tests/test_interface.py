"""The interface: methods stand in their class itself, functions in their module, with the arguments that are listed."""

import inspect
import unittest

from overhaul import legs, moments, names, posts, tale
from overhaul.bells import Bells
from overhaul.crown import Crown
from overhaul.desk import Desk
from overhaul.lane import Lane
from overhaul.logs import Log

LISTED = (
    (Log, "moment place pace", {
        "turn": "moment pace", "leave": "moment", "legs": "", "left": "", "there": "moment", "leg_at": "moment",
        "place": "moment", "twin": ""}),
    (Bells, "", {"put": "moment hind fore", "drop": "hind fore", "first": "", "take": "", "told": ""}),
    (Lane, "", {
        "join": "name place pace", "leave": "name", "turn": "name pace", "about": "", "go_to": "moment",
        "foretold": "moment", "clock": "", "order": "", "bells": "", "rank": "name", "name_at": "rank",
        "place": "name", "meets": "name other", "closest": "", "count_from": "place", "history": "name",
        "left": "name", "place_at": "name moment", "order_at": "moment", "twin": ""}),
    (Crown, "names moment order", {
        "note": "moment order", "leader": "", "story": "", "who": "moment", "twin": ""}),
    (Desk, "", {
        "do": "deed", "do_all": "deeds", "lane": "", "book": "", "journal": "", "twin": "", "leader": "mark",
        "story": "mark", "led_by": "mark moment", "tally": "name", "goings": "name post"}),
)
FUNCTIONS = (
    (moments, {
        "shared": "one two", "fraction": "top bottom", "plus": "one two", "minus": "one two", "times": "one many",
        "half_way": "one two", "less": "one two", "floor_of": "one"}),
    (names, {"good_name": "text"}),
    (legs, {
        "place_on": "leg moment", "meeting": "one other", "lies_behind": "name leg other_name other_leg moment"}),
    (posts, {"above": "leg moment post", "goings_by": "legs until post"}),
    (tale, {"line_of": "deed", "deed_of": "line", "written": "desk", "read_back": "text"}),
)


class Interface(unittest.TestCase):
    def test_methods_stand_in_their_class(self):
        for listed, made_of, methods in LISTED:
            self.assertEqual(listed.__bases__, (object,))
            for name, arguments in [("__init__", made_of), *methods.items()]:
                with self.subTest(f"{listed.__name__}.{name}"):
                    self.assertIn(name, vars(listed))
                    parameters = inspect.signature(vars(listed)[name]).parameters
                    self.assertEqual(list(parameters), ["self", *arguments.split()])

    def test_functions_stand_in_their_module(self):
        for module, functions in FUNCTIONS:
            for name, arguments in functions.items():
                with self.subTest(f"{module.__name__}.{name}"):
                    function = vars(module)[name]
                    self.assertEqual(function.__module__, module.__name__)
                    self.assertEqual(list(inspect.signature(function).parameters), arguments.split())


if __name__ == "__main__":
    unittest.main()
