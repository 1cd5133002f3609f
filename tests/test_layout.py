"""What the interface and the rules of the language ask of the files of the package."""

import ast
import importlib
import inspect
import pathlib
import unittest

from withincall import boxes, classes, desk, evidence, moves, nets, order, rows

FOLDER = pathlib.Path(__file__).resolve().parent.parent / "withincall"

# The classes of the interface with the methods listed for them, and the functions, file by file.
CLASSES = {
    "nets": {
        "Net": ("is_capacity", "slots", "incoming", "outgoing", "upstream", "downstream",
                "without", "summary", "__eq__"),
        "Pipeline": ("__init__", "row", "is_ring", "resized", "mirrored", "summary"),
        "Ring": ("__init__", "is_ring", "resized", "mirrored", "summary"),
    },
    "boxes": {
        "Box": ("__init__", "full", "exactly", "narrowed", "__contains__", "__and__", "__eq__", "__bool__"),
    },
    "order": {
        "MoveOrder": ("__init__", "total", "depth", "steps", "needs", "reason", "comes_before", "round_of",
                      "latest_round", "rounds", "critical_chain", "plans", "number_of_plans", "is_order", "are_rounds"),
    },
    "evidence": {
        "Evidence": ("__init__", "note_move", "note_reach", "note_log", "noted", "observation", "span", "is_known",
                     "fits", "foretell", "foretell_reach", "fitting", "twin"),
    },
    "rows": {
        "Census": ("__init__", "many", "rank", "state_at"),
    },
    "desk": {
        "Desk": ("__init__", "net", "state", "moves_made", "limit", "advance", "rollback", "run", "go", "enter",
                 "recover", "retune", "undo", "redo", "history", "set_limit", "attempt", "table", "watch", "unwatch",
                 "status", "advice", "statuses", "twin", "__contains__"),
    },
}
FUNCTIONS = {
    "states": ("check_state", "load", "condition", "loads", "conditions", "holders", "orphans",
               "is_clean", "mirror_state"),
    "moves": ("check_move", "check_log", "opposite", "mirror_move", "allowed_moves", "can_move",
              "blockers", "make", "run_moves", "trace"),
    "texts": ("write_net", "write_state", "write_moves", "read_net", "read_state", "read_moves",
              "channel_table"),
    "reach": ("objections", "is_objection", "reaches", "distance", "first_moves", "safe_moves",
              "plan", "is_plan"),
    "sightings": ("first_break", "longest_story", "story_cost"),
    "logs": ("audit", "repairs"),
    "lattice": ("greatest", "least", "nearest", "why_none", "is_certificate"),
    "extents": ("extent", "gap_extent", "soonest", "live_moves"),
    "recovery": ("conflicts", "may_rise", "may_fall", "rollback_line", "replay_line", "is_recoverable", "cheapest",
                 "cost_certificate", "shown_cost"),
    "classes": ("mutual", "hard_channels", "fixed_stages", "class_floor", "class_ceiling", "is_two_way", "is_dead",
                "is_settled", "members", "exits", "class_size", "class_rank", "class_member"),
    "capacity": ("needed", "widened", "extra_slots"),
    "twins": ("same_shape", "parting", "alike"),
    "rows": ("count_dead", "count_clean", "count_classes", "count_pairs", "nearest_dead"),
}
LIBRARY = ("__future__", "heapq", "math", "itertools", "collections")


def source_files():
    return sorted(FOLDER.glob("*.py"))


class TestInterface(unittest.TestCase):

    def test_each_class_stands_in_its_file_with_its_methods(self):
        for file, classes in CLASSES.items():
            module = importlib.import_module(f"withincall.{file}")
            for name, methods in classes.items():
                found = getattr(module, name)
                self.assertEqual(found.__module__, f"withincall.{file}")
                for method in methods:
                    self.assertIn(method, vars(found), f"{name}.{method}")

    def test_kinds_of_methods(self):
        self.assertIsInstance(vars(nets.Net)["is_capacity"], staticmethod)
        self.assertIsInstance(vars(nets.Net)["slots"], property)
        self.assertIsInstance(vars(nets.Pipeline)["row"], classmethod)
        self.assertIsInstance(vars(boxes.Box)["full"], staticmethod)
        self.assertIsInstance(vars(boxes.Box)["exactly"], staticmethod)
        for found, names in ((order.MoveOrder, ("total", "depth")), (evidence.Evidence, ("noted", "is_known")),
                             (rows.Census, ("many",)), (desk.Desk, ("net", "state", "moves_made", "limit"))):
            for name in names:
                self.assertIsInstance(vars(found)[name], property)

    def test_bases(self):
        self.assertEqual(nets.Pipeline.__bases__, (nets.Net,))
        self.assertEqual(nets.Ring.__bases__, (nets.Net,))

    def test_each_function_stands_in_its_file(self):
        for file, names in FUNCTIONS.items():
            module = importlib.import_module(f"withincall.{file}")
            for name in names:
                self.assertEqual(getattr(module, name).__module__, f"withincall.{file}")

    def test_generators(self):
        for call in (moves.trace, order.MoveOrder.plans, classes.members, classes.exits, evidence.Evidence.fitting):
            self.assertTrue(inspect.isgeneratorfunction(call))


class TestFiles(unittest.TestCase):

    def test_the_folder_holds_python_files_only(self):
        others = [path.name for path in FOLDER.iterdir() if path.suffix != ".py"]
        self.assertIn(others, ([], ["__pycache__"]))
        self.assertTrue((FOLDER / "__init__.py").is_file())

    def test_sizes_and_characters(self):
        for path in source_files():
            text = path.read_bytes().decode("ascii")
            lines = text.split("\n")
            self.assertLessEqual(len(lines), 399, path.name)
            for number, line in enumerate(lines, start=1):
                self.assertLessEqual(len(line), 120, f"{path.name}:{number}")
                self.assertTrue(all(" " <= sign <= "~" for sign in line), f"{path.name}:{number}")

    def test_functions_are_short(self):
        for path in source_files():
            for node in ast.walk(ast.parse(path.read_text())):
                if isinstance(node, ast.FunctionDef):
                    self.assertLessEqual(node.end_lineno - node.lineno + 1, 40, node.name)

    def test_imports_are_of_the_package_by_full_names(self):
        for path in source_files():
            for node in ast.walk(ast.parse(path.read_text())):
                self.assertNotIsInstance(node, ast.Import, path.name)
                if isinstance(node, ast.ImportFrom):
                    self.assertEqual(node.level, 0)
                    allowed = node.module.startswith("withincall.") or node.module in LIBRARY
                    self.assertTrue(allowed, f"{path.name}: {node.module}")

    def test_no_generator_expressions_and_no_percent_signs(self):
        for path in source_files():
            for node in ast.walk(ast.parse(path.read_text())):
                self.assertNotIsInstance(node, ast.GeneratorExp, path.name)
                if isinstance(node, ast.Constant) and isinstance(node.value, str):
                    self.assertNotIn("%", node.value, path.name)

    def test_no_two_files_import_from_each_other(self):
        needs = {}
        for path in source_files():
            nodes = [node for node in ast.walk(ast.parse(path.read_text())) if isinstance(node, ast.ImportFrom)]
            needs[f"withincall.{path.stem}"] = {node.module for node in nodes}
        while needs:
            free = [name for name in needs if not needs[name] & set(needs)]
            self.assertNotEqual(free, [], sorted(needs))
            for name in free:
                del needs[name]
