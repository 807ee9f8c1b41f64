"""What the interface lists: each function stands in its own file and takes its arguments by place."""

import inspect
import unittest
from importlib import import_module

LISTED = {
    "wholes": {"divisors": 1, "parted": 1, "units": 1, "sign": 1, "order": 2},
    "polys": {"plus": 2, "minus": 2, "times": 2, "over": 2, "value": 2, "at_power": 2},
    "roots": {"root_polys": 1, "root_poly": 1, "are_polys": 2},
    "sums": {
        "sum_plus": 2, "sum_times": 2, "turned": 2, "spread": 2, "ground": 1, "wheel": 3, "come_to": 2, "grounded": 1,
        "nought": 1, "same": 2, "shows_nought": 2, "shows_not": 2,
    },
    "leads": {
        "led": 2, "keepers": 1, "round_of": 1, "trace": 1, "norm": 1, "least_wheel": 1, "least_poly": 1,
        "is_least_poly": 2,
    },
    "periods": {"crowds": 2, "periods": 2, "table": 2, "is_table": 3, "plain_wheels": 1},
    "byprimes": {"parted_by_prime": 2, "is_parted_by_prime": 3},
    "signs": {"sign_by": 2, "sign_sum": 1, "square_of": 1, "sign_power": 2, "shows_sign": 3},
}


class Interface(unittest.TestCase):
    def test_functions_stand_in_their_files(self):
        for name, functions in LISTED.items():
            module = import_module("rootwheel." + name)
            for told, many in functions.items():
                with self.subTest(module=name, function=told):
                    function = getattr(module, told)
                    self.assertTrue(inspect.isfunction(function))
                    self.assertEqual(function.__module__, "rootwheel." + name)
                    inspect.signature(function).bind(*range(many))


if __name__ == "__main__":
    unittest.main()
