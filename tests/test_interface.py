"""The names and arguments of the interface, as far as its modules are there."""

import inspect
import unittest

from matefloors import layings, numbers

NUMBERS = {
    "is_root": ["thing"], "is_number": ["thing"], "number": ["a", "b", "c"], "mate": ["x"], "plus": ["x", "y"],
    "less": ["x", "y"], "times": ["d", "x", "y"], "over": ["d", "x", "y"], "sign_of": ["d", "x"],
    "is_above": ["d", "x", "y"], "whole_beneath": ["d", "x"],
}
LAYINGS = {
    "is_laying": ["d", "thing"], "shapes_in": ["d", "laying"], "is_by": ["d", "laying", "kinds"],
    "tiles_at": ["d", "laying", "x", "y"],
}


class InterfaceTest(unittest.TestCase):
    def check(self, module, wanted):
        for name, arguments in wanted.items():
            with self.subTest(name):
                self.assertEqual(list(inspect.signature(getattr(module, name)).parameters), arguments)

    def test_numbers(self):
        self.check(numbers, NUMBERS)

    def test_layings(self):
        self.check(layings, LAYINGS)


if __name__ == "__main__":
    unittest.main()
