import importlib
import inspect
import unittest

from delve import errors
from delve.deeds import Go
from tests.model import all_sorts

NO_DEFAULT = inspect.Parameter.empty

# Of each module the functions with their parameters; one with a value that may be left out is a pair.
FUNCTIONS = {
    "gates": {"gate_of": ("gate",), "is_gate": ("thing",)},
    "cellars": {"cellar": (
        "rooms", "first", "last", "ways", ("things", None), ("levers", None), ("wheels", None), ("bars", 0),
        ("water", 0),
    )},
    "stands": {"start": ("cellar",), "held": ("cellar", "stand"), "is_stand": ("cellar", "thing")},
    "deeds": {
        "deed_of": ("deed",), "deeds_at": ("cellar", "stand"), "behind": ("cellar", "stand", "deed"),
    },
    "walks": {"come": ("cellar", ("stand", None)), "depths": ("cellar",)},
    "folds": {
        "round_of": ("cellar", "stand"), "fold": ("cellar", "stand"), "folds": ("cellar",),
        "steps": ("cellar", "stand"),
    },
    "back": {"nears": ("cellar",), "shut_stands": ("cellar",)},
    "papers": {"judged": ("cellar",), "holds": ("cellar", "paper"), "shows_stuck": ("cellar", "way", "stands")},
    "ahead": {
        "must": ("cellar", "one", "other", ("stand", None)), "needed": ("cellar", ("stand", None)),
        "fewest": ("cellar", ("stand", None)), "word": ("cellar", ("stand", None)),
    },
    "deals": {
        "count": ("kinds", "size"), "number_of": ("dealing",), "dealing_of": ("kinds", "size", "number"),
        "dealt": ("cellar", "places", "dealing"), "good": ("cellar", "kinds", "places"),
    },
    "plans": {
        "plan_depth": ("plan",), "many": ("depth",), "plan_of": ("number", "depth"), "number_of": ("plan", "depth"),
    },
    "grow": {"built": ("plan",)},
    "texts": {"shown": ("cellar",), "read": ("text",)},
}

LETS = {"lets": ("held", "opened", "bars", "water"), "told": (), "text": ()}
DONE = {"can": ("cellar", "stand"), "done": ("cellar", "stand"), "told": (), "text": ()}

# Of each module the classes: the base, what one is made of, the methods.
CLASSES = {
    "gates": {
        "Plain": ("Gate", (), LETS), "Door": ("Gate", ("kind",), LETS), "Need": ("Gate", ("kind",), LETS),
        "Bar": ("Gate", ("bar",), LETS), "Wade": ("Gate", ("height", "kind"), LETS),
        "Float": ("Gate", ("height",), LETS),
    },
    "deeds": {name: ("Deed", ("number",), DONE) for name in ("Go", "Pull", "Take", "Turn", "Unlock")},
    "kept": {"Kept": ("object", ("cellar",), {
        "cellar": (), "judged": (), "needed": (), "nears": (), "change": ("way", "gate"),
    })},
    "desk": {"Desk": ("object", ("text",), {"say": ("row",)})},
}


def module_of(name):
    return importlib.import_module("delve." + name)


def parameters_of(function):
    found = [part for part in inspect.signature(function).parameters.values() if part.name != "self"]
    return tuple(part.name if part.default is NO_DEFAULT else (part.name, part.default) for part in found)


class Interface(unittest.TestCase):
    def test_functions(self):
        for name, functions in FUNCTIONS.items():
            for function, parameters in functions.items():
                self.assertEqual(parameters_of(getattr(module_of(name), function)), parameters, (name, function))

    def test_classes(self):
        for name, classes in CLASSES.items():
            for title, (base, parameters, methods) in classes.items():
                own = getattr(module_of(name), title)
                self.assertEqual([one.__name__ for one in own.__bases__], [base])
                self.assertEqual(parameters_of(own), parameters, title)
                for method, handed_in in methods.items():
                    self.assertEqual(parameters_of(getattr(own, method)), handed_in, (title, method))

    def test_each_is_defined_where_it_is_told(self):
        for name in {**FUNCTIONS, **CLASSES}:
            for one in {**FUNCTIONS.get(name, {}), **CLASSES.get(name, {})}:
                self.assertEqual(getattr(module_of(name), one).__module__, "delve." + name)

    def test_values_of_refusals(self):
        self.assertEqual(vars(errors.NoDeed((1,), ("go", 0))), {"stand": (1,), "deed": ("go", 0)})
        self.assertEqual(vars(errors.Shut((1,))), {"stand": (1,)})
        self.assertEqual(vars(errors.NoText(3)), {"line": 3})

    def test_each_module_can_be_drawn_from_by_itself(self):
        for name in {**FUNCTIONS, **CLASSES, "errors": None}:
            self.assertEqual(module_of(name).__name__, "delve." + name)

    def test_functions_are_told_by_names(self):
        made = all_sorts()
        self.assertTrue(Go(number=0).can(cellar=made, stand=(0, 0, 0, 0, 3)))


if __name__ == "__main__":
    unittest.main()
