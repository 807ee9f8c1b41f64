"""What the interface lists: each function stands in its own file and takes its arguments by place."""

import inspect
import unittest
from importlib import import_module

from rootwheel.desk import Desk

LISTED = {
    "wholes": {"divisors": 1, "parted": 1, "units": 1, "sign": 1, "order": 2},
    "polys": {"plus": 2, "minus": 2, "times": 2, "over": 2, "value": 2, "at_power": 2},
    "roots": {"root_polys": 1, "root_poly": 1, "are_polys": 2},
    "sums": {
        "sum_plus": 2, "sum_times": 2, "turned": 2, "spread": 2, "ground": 1, "wheel": 3, "come_to": 2, "grounded": 1,
        "nought": 1, "same": 2, "shows_nought": 2, "shows_not": 2,
    },
    "leads": {
        "led": 2, "keepers": 1, "round_of": 1, "trace": 1, "norm": 1, "least_wheel": 1, "least_poly": 1,
        "is_least_poly": 2,
    },
    "periods": {"crowds": 2, "periods": 2, "table": 2, "is_table": 3, "plain_wheels": 1},
    "byprimes": {"parted_by_prime": 2, "is_parted_by_prime": 3},
    "signs": {"sign_by": 2, "sign_sum": 1, "square_of": 1, "sign_power": 2, "shows_sign": 3},
    "firsts": {"first_primes": 2, "left_of": 2, "prime_paper": 1, "shows_prime": 2, "shows_firsts": 4},
    "cosines": {
        "doubled": 1, "folded": 1, "unfolded": 1, "cosine_polys": 1, "cosine_poly": 1, "are_cosines": 2, "as_sum": 2,
        "by_cosine": 1, "shows_cosine": 2, "above": 3,
    },
    "texts": {
        "show_poly": 1, "show_sum": 1, "show_wheels": 1, "show_told": 1, "show_paper": 1, "show_rows": 1,
        "read_poly": 1, "read_sum": 1, "read_wheels": 1, "read_told": 1, "read_paper": 1, "read_rows": 1,
    },
}


class Interface(unittest.TestCase):
    def test_functions_stand_in_their_files(self):
        for name, functions in LISTED.items():
            module = import_module("rootwheel." + name)
            for told, many in functions.items():
                with self.subTest(module=name, function=told):
                    function = getattr(module, told)
                    self.assertTrue(inspect.isfunction(function))
                    self.assertEqual(function.__module__, "rootwheel." + name)
                    inspect.signature(function).bind(*range(many))

    def test_the_desk(self):
        self.assertTrue(inspect.isclass(Desk))
        self.assertEqual(Desk.__module__, "rootwheel.desk")
        self.assertIn("say", vars(Desk))
        inspect.signature(Desk).bind()
        inspect.signature(Desk().say).bind("row")


if __name__ == "__main__":
    unittest.main()
