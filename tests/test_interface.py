"""The names of the interface stand where it lists them, and the code keeps its bounds of size."""

import ast
import unittest
from pathlib import Path

FOLDER = Path(__file__).resolve().parent.parent / "firstbreak"

INTERFACE = {
    "histories": {"check_history": "thing", "ancestors": "history m", "offspring": "history m"},
    "text": {"parse": "text", "shown": "history"},
    "answers": {
        "check_answers": "history answers", "contradicts": "history candidate answer",
        "contradictions": "history answers", "can_be": "history answers k", "verdict": "history skipped answers k",
        "certain_paper": "history answers k c", "judge_certain": "history answers k c paper",
    },
    "classes": {"check_skipped": "history skipped", "classes": "history skipped", "tests": "history skipped"},
    "weights": {
        "start": "history skipped k", "after": "history skipped state answer", "choices": "q most",
        "weight": "state q", "weight_bound": "state",
    },
    "search": {
        "useful": "history skipped state", "fewest_from": "history skipped state", "fewest": "history skipped k",
    },
    "trees": {
        "best_tree": "history skipped state", "depth_of": "tree", "followed": "history tree truth lies",
        "table_of": "history skipped state q",
    },
    "judge": {"judge_tree": "history skipped state q tree", "judge_table": "history skipped state q table"},
    "halving": {
        "parts_by": "history left m", "even_test": "history left", "even_most": "history left", "even_tree": "history",
        "has_two": "history", "two_bound": "n",
    },
    "tools": {
        "between": "history broken works", "merges": "history", "sides": "history m", "main_line": "history",
        "reduced": "history", "up_to": "history m", "ways": "history m", "gates": "history m",
        "to_blame": "history answers",
    },
    "counts": {"counts_after": "counts taken broken", "counts_weight": "counts q", "fewest_counts": "n k"},
    "patches": {"fewest_patches": "n", "next_numbers": "a b"},
    "onesided": {
        "can_be_one": "history answers k", "after_one": "history skipped state answer",
        "fewest_one_from": "history skipped state", "fewest_one": "history skipped k",
    },
    "onepapers": {
        "tree_one": "history skipped state", "table_one": "history skipped state q",
        "judge_tree_one": "history skipped state q tree", "judge_table_one": "history skipped state q table",
    },
    "flaky": {
        "counts_of": "answers make", "settled": "answers make k rule", "can_be_by_make": "history answers k rule",
        "fewest_by_make": "history skipped k rule", "held_back": "answers make k rule",
    },
    "flakytree": {
        "next_make": "tree answers k rule", "told_class": "tree answers k rule", "still_needed": "tree answers k rule",
        "run": "tree truth noise k rule",
    },
    "log": {
        "replay": "history k rule log", "write_log": "log", "read_log": "history k rule text",
        "mended": "history k rule text",
    },
    "report": {"report": "desk", "short": "desk", "changed": "desk other"},
    "rounds": {
        "patterns": "history left makes", "fewest_rounds": "history skipped w", "is_chain": "history",
        "chain_rounds": "n w",
    },
    "roundplan": {
        "round_plan": "history skipped w", "rounds_of": "plan", "judge_rounds": "history skipped w r plan",
    },
    "costs": {
        "least_cost": "history skipped costs", "cost_tree": "history skipped costs", "cost_of": "tree costs",
    },
    "likely": {
        "least_sum": "history skipped likely", "sum_tree": "history skipped likely", "sum_of": "history tree likely",
        "huffman_sum": "numbers", "class_likely": "history skipped likely",
    },
    "chains": {"chain_sum": "likely", "chain_tree": "likely"},
    "treetext": {"shown_tree": "history tree", "parse_tree": "history text"},
    "standings": {
        "spares": "history answers k", "ranking": "history answers", "certain_against": "history answers c",
        "rivals": "history answers c", "tellings": "history left", "course": "history answers k",
        "decisive": "history answers k", "to_take_away": "history answers k", "standings_text": "history answers k",
    },
}

CLASSES = {
    ("hunt", "Hunt"): {
        "__init__": "self n", "test": "self", "tell": "self broken", "left": "self", "ended": "self", "found": "self",
        "asked": "self", "most": "self", "undo": "self",
    },
    ("answerer", "Answerer"): {
        "__init__": "self history skipped state", "test": "self m", "state": "self", "answers": "self",
        "needed": "self", "undo": "self",
    },
    ("desk", "Desk"): {
        "__init__": "self history k rule", "history": "self", "rule": "self", "do": "self deed", "undo": "self",
        "log": "self", "answers": "self", "numbers": "self", "skipped": "self", "can_be": "self", "state": "self",
        "evenest": "self",
    },
}

ERRORS = {
    "BreakError": "ValueError", "BadHistory": "BreakError", "BadAnswer": "BreakError", "BadState": "BreakError",
    "TooGreat": "BreakError",
}


def body_of(name):
    return ast.parse((FOLDER / f"{name}.py").read_text()).body


def parameters_of(body):
    return {
        node.name: " ".join(one.arg for one in node.args.args) for node in body if isinstance(node, ast.FunctionDef)
    }


class Interface(unittest.TestCase):
    def compare(self, body, functions):
        found = parameters_of(body)
        for function, parameters in functions.items():
            self.assertEqual(found.get(function), parameters, function)

    def test_functions(self):
        for name, functions in INTERFACE.items():
            self.compare(body_of(name), functions)

    def test_classes(self):
        for (name, title), methods in CLASSES.items():
            bodies = [node.body for node in body_of(name) if isinstance(node, ast.ClassDef) and node.name == title]
            self.assertEqual(len(bodies), 1)
            self.compare(bodies[0], methods)

    def test_errors(self):
        found = {node.name: node.bases[0].id for node in body_of("errors") if isinstance(node, ast.ClassDef)}
        self.assertEqual(found, ERRORS)

    def test_size(self):
        for path in FOLDER.glob("*.py"):
            text = path.read_text()
            lines = text.splitlines()
            self.assertLess(len(lines), 400)
            self.assertTrue(all(len(line) <= 120 for line in lines), path)
            self.assertTrue(all(" " <= sign <= "~" for sign in text.replace("\n", "")), path)
            for node in ast.walk(ast.parse(text)):
                if isinstance(node, ast.FunctionDef):
                    self.assertLessEqual(node.end_lineno - node.lineno, 39, node.name)

    def test_nothing_else_in_the_folder(self):
        others = [path.name for path in FOLDER.iterdir() if path.suffix != ".py" and path.name != "__pycache__"]
        self.assertEqual(others, [])


if __name__ == "__main__":
    unittest.main()
