"""The names of the interface stand where it lists them, and the code keeps its bounds of size."""

import ast
import unittest
from pathlib import Path

FOLDER = Path(__file__).resolve().parent.parent / "firstbreak"

INTERFACE = {
    "histories": {"check_history": "thing", "ancestors": "history m", "offspring": "history m"},
    "text": {"parse": "text", "shown": "history"},
    "answers": {
        "check_answers": "history answers", "contradicts": "history candidate answer",
        "contradictions": "history answers", "can_be": "history answers k", "verdict": "history skipped answers k",
        "certain_paper": "history answers k c", "judge_certain": "history answers k c paper",
    },
    "classes": {"check_skipped": "history skipped", "classes": "history skipped", "tests": "history skipped"},
    "weights": {
        "start": "history skipped k", "after": "history skipped state answer", "choices": "q most",
        "weight": "state q", "weight_bound": "state",
    },
    "search": {
        "useful": "history skipped state", "fewest_from": "history skipped state", "fewest": "history skipped k",
    },
    "trees": {
        "best_tree": "history skipped state", "depth_of": "tree", "followed": "history tree truth lies",
        "table_of": "history skipped state q",
    },
    "judge": {"judge_tree": "history skipped state q tree", "judge_table": "history skipped state q table"},
}

ERRORS = {
    "BreakError": "ValueError", "BadHistory": "BreakError", "BadAnswer": "BreakError", "BadState": "BreakError",
    "TooGreat": "BreakError",
}


def body_of(name):
    return ast.parse((FOLDER / f"{name}.py").read_text()).body


class Interface(unittest.TestCase):
    def test_functions(self):
        for name, functions in INTERFACE.items():
            found = {
                node.name: " ".join(one.arg for one in node.args.args)
                for node in body_of(name) if isinstance(node, ast.FunctionDef)
            }
            for function, parameters in functions.items():
                self.assertEqual(found.get(function), parameters, function)

    def test_errors(self):
        found = {node.name: node.bases[0].id for node in body_of("errors") if isinstance(node, ast.ClassDef)}
        self.assertEqual(found, ERRORS)

    def test_size(self):
        for path in FOLDER.glob("*.py"):
            text = path.read_text()
            lines = text.splitlines()
            self.assertLess(len(lines), 400)
            self.assertTrue(all(len(line) <= 120 for line in lines), path)
            self.assertTrue(all(" " <= sign <= "~" for sign in text.replace("\n", "")), path)
            for node in ast.walk(ast.parse(text)):
                if isinstance(node, ast.FunctionDef):
                    self.assertLessEqual(node.end_lineno - node.lineno, 39, node.name)

    def test_nothing_else_in_the_folder(self):
        others = [path.name for path in FOLDER.iterdir() if path.suffix != ".py" and path.name != "__pycache__"]
        self.assertEqual(others, [])


if __name__ == "__main__":
    unittest.main()
