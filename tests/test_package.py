"""The head of the interface, and the rules for files: where names stand, how large files are, what they import."""

import ast
import importlib
import inspect
import unittest
from pathlib import Path

import pauseplay

FOLDER = Path(pauseplay.__file__).parent

FUNCTIONS = {
    "pauseplay.base.bounds": {
        "is_bound": "value",
        "bound_sum": "one other",
        "is_tighter": "one other",
        "turned": "bound",
        "does_keep": "bound fraction",
    },
    "pauseplay.base.points": {
        "is_fraction": "value",
        "is_pause": "value",
        "lowest": "fraction",
        "fraction_sum": "one other",
        "compare": "one other",
        "simplest": "least least_end greatest greatest_end",
        "is_point": "clocks value",
        "are_same": "one other",
        "later": "point pause",
        "set_back": "point clocks",
        "shown": "point one other",
    },
    "pauseplay.lots.lots": {
        "is_rule": "clocks value",
        "lot_or_ring": "clocks rules",
        "is_ring": "clocks rules value",
        "is_lot": "value",
        "everything": "clocks",
        "has_point": "lot point",
        "point_of": "lot",
        "is_lot_within": "lot other",
        "rules_of": "lot",
    },
    "pauseplay.lots.moves": {
        "meet": "one other",
        "cut": "lot rule",
        "later_lot": "lot",
        "earlier_lot": "lot",
        "freed_lot": "lot clocks",
        "back_lot": "lot clocks",
        "ahead_of_back": "lot clocks",
        "pause_into": "lot point",
        "back_from": "lot clocks point",
    },
    "pauseplay.lots.areas": {
        "is_area": "clocks value",
        "area_has": "area point",
        "common": "one other",
        "less": "one other",
        "thinned": "area",
        "within_or_point": "clocks one other",
        "is_within_or_point": "clocks one other value",
        "are_equal": "one other",
    },
    "pauseplay.machine.machines": {
        "machine_fault": "clocks places deeds",
        "Machine": "clocks places deeds",
        "limits": "machine place",
        "open_lot": "machine deed",
        "deeds_at": "machine place owner",
        "placed": "machine order",
        "without_deed": "machine deed",
    },
    "pauseplay.machine.runs": {
        "is_standing": "machine value",
        "waited": "machine standing pause",
        "done": "machine standing deed",
        "run": "machine standing moves",
        "time_of": "moves",
        "longest": "machine standing",
        "pauses_for": "machine standing deed",
    },
    "pauseplay.machine.classes": {
        "class_of": "point most",
        "are_alike": "one other most",
        "is_class": "clocks most value",
        "point_in": "clocks most told",
        "lot_of_class": "clocks most told",
        "next_class": "clocks most told",
        "classes_waited": "clocks most told",
        "back_class": "clocks most told back",
        "how_many": "clocks most",
        "all_classes": "clocks most",
    },
    "pauseplay.machine.fields": {
        "is_field": "machine value",
        "field_has": "machine field standing",
        "behind_wait": "machine place area",
        "ahead_of_wait": "machine place area",
        "behind_deed": "machine deed area",
        "ahead_of_deed": "machine deed area",
        "rest": "machine field",
        "joined": "machine one other",
        "are_equal_fields": "machine one other",
        "is_within_field": "machine one other",
        "places_field": "machine places",
    },
    "pauseplay.machine.reach": {
        "coming": "machine goals",
        "coming_within": "machine goals many",
        "fewest_moves": "machine standing goals",
        "run_or_closed": "machine standing goals",
        "is_run_or_closed": "machine standing goals value",
        "is_closed": "machine value",
    },
    "pauseplay.game.ways": {
        "way": "machine place goods bads",
        "safe_pauses": "machine standing bads",
        "pause_for": "machine standing goods bads",
        "is_pause_for": "machine standing goods bads value",
    },
    "pauseplay.game.plays": {
        "offers_at": "machine standing",
        "opens": "machine standing pause",
        "is_offer": "machine standing value",
        "is_answer": "machine standing offer value",
        "answers_to": "machine standing offer",
        "behind": "machine standing offer answer",
        "played": "machine standing goals turns",
    },
    "pauseplay.game.won": {
        "led_into": "machine field",
        "led_out": "machine field",
        "rounds": "machine goals",
        "won_field": "machine goals",
        "rank": "machine goals standing",
        "won_or_held": "machine goals standing",
    },
    "pauseplay.game.own": {
        "own_paper": "machine goals",
        "is_own_paper": "machine goals value",
        "paper_field": "machine goals paper",
        "row_at": "machine goals paper standing",
        "offer_by": "machine goals paper standing",
        "is_offer_by": "machine goals paper standing value",
    },
    "pauseplay.game.foe": {
        "foe_paper": "machine goals",
        "is_foe_paper": "machine goals value",
        "answer_by": "machine goals field standing offer",
        "is_answer_by": "machine goals field standing offer value",
        "outcome": "machine goals standing",
        "is_outcome": "machine goals standing value",
    },
    "pauseplay.game.keep": {
        "safe_by": "machine bads field",
        "kept_field": "machine bads",
        "is_kept_field": "machine bads value",
        "hunt": "machine bads",
        "is_hunt": "machine bads value",
        "keep_offer": "machine bads field standing",
        "is_keep_offer": "machine bads field standing value",
        "hunt_rank": "machine bads fields standing",
        "hunt_answer": "machine bads fields standing offer",
        "is_hunt_answer": "machine bads fields standing offer value",
        "kept_or_hunted": "machine bads standing",
        "is_kept_or_hunted": "machine bads standing value",
    },
    "pauseplay.game.time": {
        "with_time": "machine goals most",
        "origins_of": "machine goals",
        "timed_standing": "machine goals standing most passed",
        "within": "machine goals standing most",
        "least_time": "machine goals standing most",
        "time_paper": "machine goals standing most",
        "is_time_paper": "machine goals standing most value",
    },
    "pauseplay.side.products": {
        "side_by_side": "one other shared",
        "deeds_told": "one other shared",
        "joined_standing": "one other here there",
        "parted_standing": "one other standing",
        "parted_course": "one other shared standing course",
        "joined_course": "one other shared here first there last",
        "goals_beside": "one other goals",
        "bads_beside": "one other bads others",
    },
    "pauseplay.texts.texts": {
        "text_of": "machine names",
        "read_machine": "text",
        "standing_text": "machine names standing",
        "read_standing": "machine names text",
        "play_text": "machine names turns",
        "read_play": "machine names text",
    },
    "pauseplay.check.checker": {
        "kinds": "",
        "is_claim": "value",
        "opposite": "claim",
        "takes": "claim paper",
    },
    "pauseplay.house.desk": {
        "Desk": "machine",
        "read_log": "text",
    },
}

CONSTANTS = {
    "pauseplay.base.points": {"MOST_CLOCKS": 4},
    "pauseplay.lots.lots": {"MOST_RULES": 100},
    "pauseplay.lots.areas": {"MOST_LOTS": 5000, "MOST_KNOTS": 4000},
    "pauseplay.machine.machines": {"MOST_PLACES": 12, "MOST_DEEDS": 40, "MOST_NUMBER": 20},
    "pauseplay.machine.runs": {"MOST_MOVES": 400},
    "pauseplay.machine.classes": {"MOST_CLASSES": 5000, "MOST_WHOLE": 20},
    "pauseplay.machine.reach": {"MOST_MOVES": 400},
    "pauseplay.texts.texts": {"MOST_TEXT": 20000},
    "pauseplay.house.desk": {"MOST_WATCHES": 8, "MOST_DONE": 400},
}

CLASSES = {
    ("pauseplay.machine.machines", "Machine"): "__init__ __eq__ __str__ clocks places deeds most",
    ("pauseplay.house.desk", "Desk"): (
        "__init__ __eq__ machine done watches edit watch unwatch answer paper changed undo log twin"
    ),
}

METHODS = {
    "edit": "changes", "watch": "name goals standing", "unwatch": "name", "answer": "name", "paper": "name", "changed": "name", "undo": "many", "log": "", "twin": "",
}

LIBRARY = ("gcd", "lcm", "isqrt", "comb", "perm", "factorial")


def sources():
    """Each file of the package with its text."""
    return [(path, path.read_text(encoding="utf-8")) for path in sorted(FOLDER.rglob("*.py"))]


class InterfaceTest(unittest.TestCase):
    def test_each_function_is_defined_in_its_module(self):
        for module_name, functions in FUNCTIONS.items():
            module = importlib.import_module(module_name)
            for name, parameters in functions.items():
                with self.subTest(module=module_name, name=name):
                    function = getattr(module, name)
                    self.assertEqual(function.__module__, module_name)
                    self.assertEqual(list(inspect.signature(function).parameters), parameters.split())

    def test_no_other_function_has_a_name_of_the_interface(self):
        told = {name: module_name for module_name, functions in FUNCTIONS.items() for name in functions}
        for path, text in sources():
            module_name = ".".join(path.relative_to(FOLDER.parent).with_suffix("").parts)
            for node in ast.parse(text).body:
                if isinstance(node, (ast.FunctionDef, ast.ClassDef)) and node.name in told:
                    self.assertEqual(told[node.name], module_name, node.name)

    def test_constants_stand_in_their_modules(self):
        for module_name, constants in CONSTANTS.items():
            tree = ast.parse(inspect.getsource(importlib.import_module(module_name)))
            told = {node.targets[0].id: node.value.value for node in tree.body if isinstance(node, ast.Assign)
                    and isinstance(node.value, ast.Constant)}
            for name, value in constants.items():
                with self.subTest(module=module_name, name=name):
                    self.assertEqual(told[name], value)

    def test_each_method_is_defined_in_its_class(self):
        for (module_name, class_name), names in CLASSES.items():
            told = vars(getattr(importlib.import_module(module_name), class_name))
            for name in names.split():
                with self.subTest(module=module_name, name=name):
                    self.assertIn(name, told)


    def test_methods_of_the_desk(self):
        desk = getattr(importlib.import_module("pauseplay.house.desk"), "Desk")
        for name, parameters in METHODS.items():
            told = inspect.signature(getattr(desk, name)).parameters
            self.assertEqual(list(told), ["self"] + parameters.split())
            self.assertEqual([each.default for each in told.values() if each.default is not each.empty], [1] if name == "undo" else [])


class FilesTest(unittest.TestCase):
    def test_the_package_holds_nothing_but_its_files(self):
        for path in FOLDER.rglob("*"):
            if "__pycache__" not in path.parts:
                with self.subTest(path=path):
                    self.assertTrue(path.is_dir() or path.suffix == ".py")

    def test_each_folder_has_an_init(self):
        for path, _ in sources():
            self.assertTrue((path.parent / "__init__.py").exists(), path)

    def test_lines_and_files_are_short_and_plain(self):
        for path, text in sources():
            with self.subTest(path=path):
                lines = text.split("\n")
                self.assertLessEqual(len(lines), 399)
                self.assertLessEqual(max(map(len, lines)), 120)
                self.assertEqual([sign for sign in text if sign != "\n" and not " " <= sign <= "~"], [])

    def test_functions_are_short(self):
        for path, text in sources():
            for node in ast.walk(ast.parse(text)):
                if isinstance(node, ast.FunctionDef):
                    with self.subTest(path=path, name=node.name):
                        self.assertLessEqual(node.end_lineno - node.lineno + 1, 40)

    def test_imports_name_the_very_file_that_defines_the_name(self):
        for path, text in sources():
            for node in ast.walk(ast.parse(text)):
                self.assertNotIsInstance(node, ast.Import, path)
                if isinstance(node, ast.ImportFrom):
                    with self.subTest(path=path, module=node.module):
                        self.assert_import(node)

    def assert_import(self, node):
        if node.module == "math":
            self.assertLessEqual({alias.name for alias in node.names}, set(LIBRARY))
            return
        self.assertEqual((node.module.split(".")[0], node.level), ("pauseplay", 0))
        module = importlib.import_module(node.module)
        for alias in node.names:
            self.assertIsNone(alias.asname)
            value = getattr(module, alias.name)
            self.assertEqual(getattr(value, "__module__", node.module), node.module)


if __name__ == "__main__":
    unittest.main()
