"""Runs examples as the document writes them: a line with >>>, and below it the answer, or the error that is raised."""

import importlib

MODULES = """
    errors base.bounds base.points lots.lots lots.moves lots.areas machine.machines machine.runs machine.classes
    machine.fields machine.reach game.ways game.plays game.won game.own game.foe game.keep game.time
    side.products texts.texts check.checker house.desk
""".split()

KEPT = ("given", "asked", "spot", "wanted", "limit", "reason")


def all_names():
    """All names of the interface, as far as it is there."""
    names = {}
    for module in MODULES:
        found = vars(importlib.import_module(f"pauseplay.{module}"))
        names.update({name: value for name, value in found.items() if getattr(value, "__module__", "").endswith(module)})
    return names


def error_told(error):
    """The error as the document writes it."""
    kept = [getattr(error, name) for name in KEPT if hasattr(error, name)]
    return f"raises {error.__class__.__name__}" + (f"({kept[0]!r})" if kept else "")


class Examples:
    """An assertion about examples, for a test case."""

    def answer(self, line, names):
        try:
            return repr(eval(line, names))
        except (ValueError, LookupError, ArithmeticError) as error:
            return error_told(error)

    def assert_examples(self, text):
        """Each line has the answer that stands below it."""
        names, lines = all_names(), text.strip().split("\n")
        answers = 0
        for line, below in zip(lines, lines[1:] + [">>> "]):
            if not line.startswith(">>> "):
                continue
            if below.startswith(">>> "):
                exec(line[4:], names)
            else:
                answers += 1
                with self.subTest(line=line):
                    self.assertEqual(self.answer(line[4:], names), below)
        self.assertEqual(answers, len([line for line in lines if not line.startswith(">>> ")]))
        self.assertGreater(answers, 1)
