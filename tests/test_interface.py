"""What the interface lists: each function stands in its own file and takes its arguments by place."""

import inspect
import unittest
from importlib import import_module

LISTED = {
    "wholes": {"divisors": 1, "parted": 1, "units": 1, "sign": 1, "order": 2},
    "polys": {"plus": 2, "minus": 2, "times": 2, "over": 2, "value": 2, "at_power": 2},
}


class Interface(unittest.TestCase):
    def test_functions_stand_in_their_files(self):
        for name, functions in LISTED.items():
            module = import_module("rootwheel." + name)
            for told, many in functions.items():
                with self.subTest(module=name, function=told):
                    function = getattr(module, told)
                    self.assertTrue(inspect.isfunction(function))
                    self.assertEqual(function.__module__, "rootwheel." + name)
                    inspect.signature(function).bind(*range(many))


if __name__ == "__main__":
    unittest.main()
