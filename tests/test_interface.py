"""The interface: its names and arguments, as the document lists them."""

import importlib
import inspect
import unittest

FUNCTIONS = {
    "sums": ["is_sum(row)", "added(one, other)", "total(rows)", "evenly(one, other)"],
    "field": ["field_on(body)"],
    "roads": ["roads(field, high, low)", "only_road(field, high, low)"],
    "carry": ["filled(field, row)", "down(field, row)", "up(field, row)", "slim_border(field, row)"],
    "slim": ["slim_body(field)"],
    "deeds": ["settle(field)", "cancel(field, high, low)", "fold(field, low)", "grow(field, rank, row)"],
    "rounds": ["is_round(body, row)", "filling(body, row)", "bar(body, row)", "slim_filling(field, row)"],
    "shapes": ["full_body(n)", "round_body(n)", "apart(one, other)", "product(one, other)"],
    "notes": ["shown_sum(row)", "read_sum(line)", "written(field)", "read_field(lines)"],
}
BODY = ["put(rank, border)", "take(cell)", "stands(cell)", "cells()", "coming()", "rank(cell)", "border(cell)",
        "over(cell)", "border_of(row)", "of_rank(rank)", "counts()", "twin()"]
METHODS = {
    ("body", "Body"): BODY,
    ("field", "Field"): BODY + ["tie(low, high)", "untie(low)", "head_of(cell)", "tail_of(cell)", "tails()", "heads()",
                                "lone()", "arrows()", "order()"],
    ("tower", "Tower"): ["__init__(body)", "floors()", "floor(k)", "build()", "raze()", "tie(low, high)", "untie(low)",
                         "settle()", "filled(row)", "down(row)", "up(row)", "slim_border(row)"],
    ("room", "Room"): ["__init__()", "deed(what)", "back()", "journal()", "field()"],
}


class InterfaceTest(unittest.TestCase):
    def test_functions(self):
        for module, listed in FUNCTIONS.items():
            names = vars(importlib.import_module("slimbody." + module))
            for row in listed:
                name = row.partition("(")[0]
                self.assertEqual(name + str(inspect.signature(names[name])), row)

    def test_methods(self):
        for (module, kind), listed in METHODS.items():
            names = vars(vars(importlib.import_module("slimbody." + module))[kind])
            for row in listed:
                name = row.partition("(")[0]
                own = str(inspect.signature(names[name])).replace("(self, ", "(").replace("(self)", "()")
                self.assertEqual(name + own, row)


if __name__ == "__main__":
    unittest.main()
