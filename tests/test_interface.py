"""The interface: each listed method stands in its class itself, with the arguments that are listed."""

import inspect
import unittest

from overhaul.bells import Bells
from overhaul.lane import Lane
from overhaul.logs import Log

LISTED = (
    (Log, "moment place pace", {
        "turn": "moment pace", "leave": "moment", "legs": "", "left": "", "there": "moment", "leg_at": "moment",
        "place": "moment", "twin": ""}),
    (Bells, "", {"put": "moment hind fore", "drop": "hind fore", "first": "", "take": "", "told": ""}),
    (Lane, "", {
        "join": "name place pace", "leave": "name", "turn": "name pace", "about": "", "go_to": "moment",
        "foretold": "moment", "clock": "", "order": "", "bells": "", "rank": "name", "name_at": "rank",
        "place": "name", "meets": "name other", "closest": "", "count_from": "place", "history": "name",
        "left": "name", "place_at": "name moment", "order_at": "moment", "twin": ""}),
)


class Interface(unittest.TestCase):
    def test_methods_stand_in_their_class(self):
        for listed, made_of, methods in LISTED:
            self.assertEqual(listed.__bases__, (object,))
            for name, arguments in [("__init__", made_of), *methods.items()]:
                with self.subTest(f"{listed.__name__}.{name}"):
                    self.assertIn(name, vars(listed))
                    parameters = inspect.signature(vars(listed)[name]).parameters
                    self.assertEqual(list(parameters), ["self", *arguments.split()])


if __name__ == "__main__":
    unittest.main()
