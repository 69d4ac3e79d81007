"""The interface: its names, where they are defined, their parameters, and its lines with the results that it prints."""

import ast
import doctest
import importlib
import unittest
from pathlib import Path

FOLDER = Path(__file__).resolve().parent.parent / "surefinds"
SIGNATURES = {
    "chances": ("greatest_chance(count, corners)", "masses(count, corners)", "prices(count, corners)",
                "greatest_mean(count, worths)", "worth_masses(count, worths)", "worth_prices(count, worths)",
                "apart_chance(count, corners)", "apart_mean(count, worths)"),
    "frames": ("is_frame(value)", "full_frame(count)", "implied_frame(count, ties)"),
    "books": ("is_book(count, value)", "says(count, book, numbers)", "wrong_corners(frame, book, lot)",
              "risk(frame, book)", "riskiest(frame, book)"),
    "bars": ("are_bars(count, value)", "bars_of(frame, book)", "bars_risk(frame, bars)",
             "possible_lots(frame, bars, numbers)", "sure_count(frame, bars, numbers, group)",
             "called(frame, bars, numbers)", "is_coherent(frame, bars)"),
    "closed": ("never_less(frame, bars, other)", "parting(frame, bars, other)", "is_consonant(frame, bars)",
               "quiet_numbers(frame, bars)"),
    "degrees": ("scaled_bars(frame, bars, degree)", "least_degree(frame, bars, numbers, group, number)"),
    "named": ("weighed_bars(frame, weights, degree)", "ranked_bars(frame, degree)",
              "web_bars(frame, weights, web, degree)", "web_weights(weights, web, lot)"),
    "ways": ("step_down(numbers, limits)", "step_up(numbers, limits)", "down_risk(limits)", "up_risk(limits)",
             "web_calls(weights, web, numbers, degree)", "hommel_number(numbers, degree)",
             "ranked_count(numbers, degree, group)"),
    "shares": ("share(numbers, limits, lot)", "share_worths(limits, lot)", "greatest_share(limits, lot)",
               "apart_share(limits, lot, numbers)"),
    "checker": ("accepts(claim, paper)",),
    "certificates": ("certify_chance(count, corners, fraction)", "certify_mean(count, worths, fraction)",
                     "certify_risk(frame, book, fraction)", "certify_sure(frame, bars, numbers, group, number)",
                     "certify_never_less(frame, bars, other)", "certify_consonant(frame, bars)",
                     "certify_coherent(frame, bars)"),
}


class Signatures(unittest.TestCase):

    def test_each_function_is_defined_in_its_file_as_told(self):
        for name, told in SIGNATURES.items():
            tree = ast.parse((FOLDER / f"{name}.py").read_text())
            found = {f"{node.name}({ast.unparse(node.args)})" for node in tree.body if isinstance(node, ast.FunctionDef)}
            self.assertLessEqual(set(told), found, name)

    def test_each_function_can_be_imported(self):
        for name, told in SIGNATURES.items():
            module = importlib.import_module(f"surefinds.{name}")
            for each in told:
                self.assertEqual(getattr(module, each.split("(")[0]).__module__, f"surefinds.{name}")


def load_tests(loader, tests, pattern):
    tests.addTests(doctest.DocFileSuite("interface.txt"))
    return tests
