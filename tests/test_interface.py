"""The names of the interface: where they are defined, with which parameters."""

import ast
import inspect
import importlib
import pathlib
import unittest

ROOT = pathlib.Path(__file__).resolve().parent.parent
ERRORS = ("TangentError InvalidForm InvalidLine InvalidPoint InvalidLot InvalidMarks InvalidPair InvalidRow InvalidTable InvalidWeb "
          "InvalidPromise InvalidOperation ParseError InvalidNumber UnknownName TooMany Refused NothingToUndo").split()
FUNCTIONS = {
    "base.numbers": {"is_integer": "value", "is_prime": "value", "is_number": "prime value", "inverse": "prime number",
                     "common_divisor": "numbers", "normal": "prime numbers"},
    "base.tables": {"rank": "prime table", "echelon": "prime table", "is_mix": "prime table value", "kernel": "prime table",
                    "sent": "prime table numbers", "determinant": "prime table", "undone": "prime table"},
    "form.forms": {"monomials": "letters degree"},
    "form.products": {"linear": "prime numbers", "product_of": "prime letters forms", "determinant_of": "rows",
                      "is_multiple": "one other"},
    "plane.lines": {"is_line": "prime value", "is_point": "prime value", "line_of": "prime numbers", "is_on": "prime point line",
                    "meet": "prime one other", "join": "prime one other", "each_line": "prime"},
    "plane.primes": {"reduced": "lot prime", "keeps_points": "lot prime", "bad_primes": "lot", "count_off": "lot",
                     "each_off": "lot", "all_lines": "prime"},
    "mark.pairs": {"is_pair": "marks value", "count_pairs": "marks degree", "pairs_of": "marks degree", "degrees": "marks",
                   "two_pairs": "marks", "are_two": "marks value", "told_by": "marks two pair"},
    "mark.euclid": {"contact": "marks", "divided": "marks", "turn_of": "marks", "degrees_by_division": "marks",
                    "pairs_by_division": "marks", "rest_at": "marks pair spot", "grown": "marks two spot", "pairs_by_growth": "marks"},
    "mark.places": {"cross_ratio": "prime spots", "is_harmonic": "prime spots", "gap_of_three": "prime counts",
                    "degrees_by_counts": "marks", "is_special": "marks", "special_places": "marks spot", "widened": "marks",
                    "widened_pair": "prime pair"},
    "row.rows": {"plain": "prime", "is_tangent": "lot value", "count_rows": "lot degree", "count_killing": "lot degree",
                 "rows_of": "lot degree", "killing_rows": "lot line degree", "parted": "lot line row", "led_row": "prime row table",
                 "least_degree": "lot", "far_count": "lot degree", "each_count": "lot"},
    "row.slopes": {"slopes": "lot", "is_relation": "lot value", "factor_of": "lot row", "relation_of": "lot row",
                   "row_with": "lot factor relation", "count_relations": "lot degree", "count_left": "lot degree"},
    "free.free": {"is_free": "lot", "degrees_of": "lot", "free_rows": "lot", "are_free_rows": "lot value", "number_of_rows": "lot two",
                  "told_by_rows": "lot two row", "row_made": "lot two parts", "reduced_rows": "lot two prime"},
    "free.deeds": {"whole_degrees": "lot", "point_counts": "lot", "points_paper": "lot", "is_points_paper": "lot value",
                   "free_by_points": "lot", "degrees_without": "lot line", "degrees_with": "lot line", "free_lines": "lot"},
    "row.generators": {"generator_degrees": "lot", "relation_degrees": "lot", "generators": "lot", "are_generators": "lot value",
                       "told_by_generators": "lot rows row", "is_told_by_generators": "lot rows row value", "degrees_left": "lot line"},
    "chain.chains": {"modular_points": "lot", "is_modular": "lot value", "missing_join": "lot point", "is_missing_join": "lot point value",
                     "degrees_by_point": "lot point", "history_by_point": "lot point", "history": "lot", "is_history": "lot value",
                     "each_free_part": "lot many"},
    "web.webs": {"each_web": "", "open_ring": "web", "order_of_points": "web", "is_order_of_points": "web value", "web_degrees": "web",
                 "signed_lot": "prime minus plus halves"},
    "count.counted": {"is_counted_row": "lot counts value", "count_counted": "lot counts degree", "counted_rows": "lot counts degree",
                      "are_counted_free": "lot counts value", "counted_paper": "lot counts", "local_marks": "lot counts point",
                      "local_degrees": "lot counts point", "sum_of_products": "lot counts", "lowered_counts": "lot counts line",
                      "euler_marks": "lot counts line"},
    "desk.promises": {"is_promise": "prime value", "does_hold": "lot promise", "paper_against": "lot promise",
                      "is_paper_against": "lot promise value"},
    "text.formats": {"write_lot": "lot", "read_lot": "text", "write_marks": "marks", "read_marks": "text", "write_forms": "forms",
                     "read_forms": "prime letters text"},
    "press.lines": {"left_out": "prime line", "spot_of": "prime line point", "marks_on": "lot line", "triples_on": "lot line"},
    "press.pairs": {"is_pressed": "lot line value", "count_pressed": "lot line degree", "degrees_on": "lot line", "gap": "lot line",
                    "two_pressed": "lot line", "are_two_pressed": "lot line value", "bar_on": "lot line", "is_bar": "lot line value",
                    "press": "lot line row", "curve_of": "lot line pair", "is_curve": "lot line value"},
}
CLASSES = {
    ("form.forms", "Form"): {"__init__": "self prime letters table", "read": "cls prime letters text", "prime": "self",
                             "letters": "self", "degree": "self", "table": "self", "__add__": "self other",
                             "__sub__": "self other", "__neg__": "self", "__mul__": "self other", "power": "self many",
                             "at": "self numbers", "slope": "self name", "led": "self images", "over": "self other",
                             "order_of": "self linear", "cleared": "self", "__getitem__": "self at", "__len__": "self",
                             "__bool__": "self", "__iter__": "self", "__eq__": "self other", "__str__": "self"},
    ("plane.lots", "Lot"): {"__init__": "self prime lines", "prime": "self", "lines": "self", "many": "self", "points": "self",
                            "second": "self", "rest": "self", "squares": "self", "factors": "self", "product": "self",
                            "is_bundle": "self", "lines_at": "self point", "number_at": "self point", "points_on": "self line",
                            "with_line": "self line", "without_line": "self line", "part": "self lines", "led": "self table",
                            "__or__": "self other", "__contains__": "self x", "__len__": "self", "__iter__": "self",
                            "__eq__": "self other", "__str__": "self"},
    ("mark.marks", "Marks"): {"__init__": "self prime counts", "prime": "self", "counts": "self", "spots": "self", "total": "self",
                              "product": "self", "count_at": "self spot", "raised": "self spot", "lowered": "self spot",
                              "led": "self table", "__len__": "self", "__iter__": "self", "__contains__": "self x",
                              "__eq__": "self other", "__str__": "self"},
    ("web.webs", "Web"): {"__init__": "self ties", "full": "cls points", "ties": "self", "is_whole": "self", "lot_over": "self prime",
                          "with_tie": "self tie", "without_tie": "self tie", "renamed": "self points", "__eq__": "self other",
                          "__len__": "self", "__iter__": "self", "__contains__": "self x", "__str__": "self"},
    ("desk.desks", "Desk"): {"__init__": "self lot", "lot": "self", "promises": "self", "version": "self", "do": "self deeds",
                             "would": "self deeds", "promise": "self promise", "drop": "self promise", "undo": "self count",
                             "at": "self version", "batch": "self", "__len__": "self", "__iter__": "self", "__contains__": "self x",
                             "__eq__": "self other", "__str__": "self"},
    ("desk.desks", "Batch"): {"lot": "self", "is_open": "self", "put": "self deed", "end": "self", "drop": "self", "__enter__": "self",
                              "__exit__": "self kind value trace"},
    ("text.shell", "Shell"): {"__init__": "self lot", "lot": "self", "promises": "self", "version": "self", "say": "self command",
                              "run": "self commands", "__len__": "self", "__str__": "self"},
}
CONSTANTS = {"base.numbers": ("PRIMES", "MAX_NUMBERS"), "base.tables": ("MAX_ROWS", "MAX_WIDTH"),
             "form.forms": ("MAX_DEGREE", "LETTERS"), "plane.lines": ("MAX_ENTRY",), "plane.lots": ("MAX_LINES",),
             "mark.marks": ("MAX_SPOTS", "MAX_COUNT", "MAX_TOTAL", "MAX_ENTRY"), "mark.pairs": ("MAX_DEGREE",), "mark.euclid": ("END",),
             "row.rows": ("MOST_LINES", "MOST_DEGREE", "MOST_FAR"), "row.slopes": ("MAX_LINES", "MAX_RELATION", "MAX_LEFT"),
             "free.free": ("MOST_LINES",), "press.pairs": ("MAX_PRESSED",), "free.deeds": ("MAX_LINES",),
             "row.generators": ("MOST_LINES", "MOST_TOLD"), "chain.chains": ("MAX_SEARCHED",), "web.webs": ("POINTS",),
             "count.counted": ("MAX_LINES", "MAX_TOTAL", "MAX_DEGREE", "MAX_ENTRY"), "desk.desks": ("MAX_PROMISES", "MAX_DEEDS"),
             "text.formats": ("MAX_FORMS",), "text.shell": ("MAX_LINE", "MAX_LINES")}


def tree_of(module):
    return ast.parse((ROOT / "tangentrows" / (module.replace(".", "/") + ".py")).read_text())


class InterfaceTest(unittest.TestCase):
    def test_functions(self):
        for module, functions in FUNCTIONS.items():
            defined = {node.name: node for node in tree_of(module).body if isinstance(node, ast.FunctionDef)}
            for name, parameters in functions.items():
                self.assertEqual([one.arg for one in defined[name].args.args], parameters.split(), name)

    def test_classes(self):
        for (module, name), methods in CLASSES.items():
            found = [node for node in tree_of(module).body if isinstance(node, ast.ClassDef) and node.name == name][0]
            defined = {node.name: node for node in found.body if isinstance(node, ast.FunctionDef)}
            for method, parameters in methods.items():
                self.assertEqual([one.arg for one in defined[method].args.args], parameters.split(), method)
        form = importlib.import_module("tangentrows.form.forms").Form
        self.assertIsNone(inspect.signature(form).parameters["table"].default)
        desk = importlib.import_module("tangentrows.desk.desks").Desk
        self.assertEqual(inspect.signature(desk.undo).parameters["count"].default, 1)

    def test_errors(self):
        defined = [node.name for node in tree_of("errors").body if isinstance(node, ast.ClassDef)]
        self.assertEqual(sorted(defined), sorted(ERRORS))

    def test_constants(self):
        for module, names in CONSTANTS.items():
            bound = [target.id for node in tree_of(module).body if isinstance(node, ast.Assign) for target in node.targets]
            for name in names:
                self.assertIn(name, bound)


if __name__ == "__main__":
    unittest.main()
