"""The names of the interface: where they are defined, with which parameters."""

import ast
import inspect
import importlib
import pathlib
import unittest

ROOT = pathlib.Path(__file__).resolve().parent.parent
ERRORS = ("TangentError InvalidForm InvalidLine InvalidPoint InvalidLot InvalidMarks InvalidPair InvalidRow InvalidTable InvalidWeb "
          "InvalidPromise InvalidOperation ParseError InvalidNumber UnknownName TooMany Refused NothingToUndo").split()
FUNCTIONS = {
    "base.numbers": {"is_integer": "value", "is_prime": "value", "is_number": "prime value", "inverse": "prime number",
                     "common_divisor": "numbers", "normal": "prime numbers"},
    "base.tables": {"rank": "prime table", "echelon": "prime table", "is_mix": "prime table value", "kernel": "prime table",
                    "sent": "prime table numbers", "determinant": "prime table", "undone": "prime table"},
    "form.forms": {"monomials": "letters degree"},
    "form.products": {"linear": "prime numbers", "product_of": "prime letters forms", "determinant_of": "rows",
                      "is_multiple": "one other"},
    "plane.lines": {"is_line": "prime value", "is_point": "prime value", "line_of": "prime numbers", "is_on": "prime point line",
                    "meet": "prime one other", "join": "prime one other", "each_line": "prime"},
    "plane.primes": {"reduced": "lot prime", "keeps_points": "lot prime", "bad_primes": "lot", "count_off": "lot",
                     "each_off": "lot", "all_lines": "prime"},
    "mark.pairs": {"is_pair": "marks value", "count_pairs": "marks degree", "pairs_of": "marks degree", "degrees": "marks",
                   "two_pairs": "marks", "are_two": "marks value", "told_by": "marks two pair"},
    "mark.euclid": {"contact": "marks", "divided": "marks", "turn_of": "marks", "degrees_by_division": "marks",
                    "pairs_by_division": "marks", "rest_at": "marks pair spot", "grown": "marks two spot", "pairs_by_growth": "marks"},
    "mark.places": {"cross_ratio": "prime spots", "is_harmonic": "prime spots", "gap_of_three": "prime counts",
                    "degrees_by_counts": "marks", "is_special": "marks", "special_places": "marks spot", "widened": "marks",
                    "widened_pair": "prime pair"},
    "row.rows": {"plain": "prime", "is_tangent": "lot value", "count_rows": "lot degree", "count_killing": "lot degree",
                 "rows_of": "lot degree", "killing_rows": "lot line degree", "parted": "lot line row", "led_row": "prime row table",
                 "least_degree": "lot", "far_count": "lot degree", "each_count": "lot"},
    "row.slopes": {"slopes": "lot", "is_relation": "lot value", "factor_of": "lot row", "relation_of": "lot row",
                   "row_with": "lot factor relation", "count_relations": "lot degree", "count_left": "lot degree"},
    "free.free": {"is_free": "lot", "degrees_of": "lot", "free_rows": "lot", "are_free_rows": "lot value", "number_of_rows": "lot two",
                  "told_by_rows": "lot two row", "row_made": "lot two parts", "reduced_rows": "lot two prime"},
    "press.lines": {"left_out": "prime line", "spot_of": "prime line point", "marks_on": "lot line", "triples_on": "lot line"},
    "press.pairs": {"is_pressed": "lot line value", "count_pressed": "lot line degree", "degrees_on": "lot line", "gap": "lot line",
                    "two_pressed": "lot line", "are_two_pressed": "lot line value", "bar_on": "lot line", "is_bar": "lot line value",
                    "press": "lot line row", "curve_of": "lot line pair", "is_curve": "lot line value"},
}
CLASSES = {
    ("form.forms", "Form"): {"__init__": "self prime letters table", "read": "cls prime letters text", "prime": "self",
                             "letters": "self", "degree": "self", "table": "self", "__add__": "self other",
                             "__sub__": "self other", "__neg__": "self", "__mul__": "self other", "power": "self many",
                             "at": "self numbers", "slope": "self name", "led": "self images", "over": "self other",
                             "order_of": "self linear", "cleared": "self", "__getitem__": "self at", "__len__": "self",
                             "__bool__": "self", "__iter__": "self", "__eq__": "self other", "__str__": "self"},
    ("plane.lots", "Lot"): {"__init__": "self prime lines", "prime": "self", "lines": "self", "many": "self", "points": "self",
                            "second": "self", "rest": "self", "squares": "self", "factors": "self", "product": "self",
                            "is_bundle": "self", "lines_at": "self point", "number_at": "self point", "points_on": "self line",
                            "with_line": "self line", "without_line": "self line", "part": "self lines", "led": "self table",
                            "__or__": "self other", "__contains__": "self x", "__len__": "self", "__iter__": "self",
                            "__eq__": "self other", "__str__": "self"},
    ("mark.marks", "Marks"): {"__init__": "self prime counts", "prime": "self", "counts": "self", "spots": "self", "total": "self",
                              "product": "self", "count_at": "self spot", "raised": "self spot", "lowered": "self spot",
                              "led": "self table", "__len__": "self", "__iter__": "self", "__contains__": "self x",
                              "__eq__": "self other", "__str__": "self"},
}
CONSTANTS = {"base.numbers": ("PRIMES", "MAX_NUMBERS"), "base.tables": ("MAX_ROWS", "MAX_WIDTH"),
             "form.forms": ("MAX_DEGREE", "LETTERS"), "plane.lines": ("MAX_ENTRY",), "plane.lots": ("MAX_LINES",),
             "mark.marks": ("MAX_SPOTS", "MAX_COUNT", "MAX_TOTAL", "MAX_ENTRY"), "mark.pairs": ("MAX_DEGREE",), "mark.euclid": ("END",),
             "row.rows": ("MOST_LINES", "MOST_DEGREE", "MOST_FAR"), "row.slopes": ("MAX_LINES", "MAX_RELATION", "MAX_LEFT"),
             "free.free": ("MOST_LINES",), "press.pairs": ("MAX_PRESSED",)}


def tree_of(module):
    return ast.parse((ROOT / "tangentrows" / (module.replace(".", "/") + ".py")).read_text())


class InterfaceTest(unittest.TestCase):
    def test_functions(self):
        for module, functions in FUNCTIONS.items():
            defined = {node.name: node for node in tree_of(module).body if isinstance(node, ast.FunctionDef)}
            for name, parameters in functions.items():
                self.assertEqual([one.arg for one in defined[name].args.args], parameters.split(), name)

    def test_classes(self):
        for (module, name), methods in CLASSES.items():
            found = [node for node in tree_of(module).body if isinstance(node, ast.ClassDef) and node.name == name][0]
            defined = {node.name: node for node in found.body if isinstance(node, ast.FunctionDef)}
            for method, parameters in methods.items():
                self.assertEqual([one.arg for one in defined[method].args.args], parameters.split(), method)
        form = importlib.import_module("tangentrows.form.forms").Form
        self.assertIsNone(inspect.signature(form).parameters["table"].default)

    def test_errors(self):
        defined = [node.name for node in tree_of("errors").body if isinstance(node, ast.ClassDef)]
        self.assertEqual(sorted(defined), sorted(ERRORS))

    def test_constants(self):
        for module, names in CONSTANTS.items():
            bound = [target.id for node in tree_of(module).body if isinstance(node, ast.Assign) for target in node.targets]
            for name in names:
                self.assertIn(name, bound)


if __name__ == "__main__":
    unittest.main()
