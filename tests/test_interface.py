"""The interface: names and arguments as the document has them."""

import importlib
import inspect
import unittest

from braidcomb.loom import Loom

INTERFACE = {
    "words": {
        "checked": ["n", "word"],
        "turned": ["word"],
        "mirrored": ["word"],
        "upturned": ["word"],
        "flipped": ["n", "word"],
        "trimmed": ["word"],
        "order_of": ["n", "word"],
    },
    "wordtext": {
        "written": ["n", "word"],
        "read_text": ["text"],
    },
    "moves": {
        "moved": ["n", "word", "move"],
        "moves_of": ["word"],
        "move_back": ["n", "word", "move"],
    },
    "counts": {
        "sum_of": ["word"],
        "table": ["n", "word"],
        "rings": ["n", "word"],
        "linked": ["n", "word"],
        "profile": ["n", "word"],
    },
    "rows": {
        "checked_row": ["row"],
        "straight": ["n"],
        "half": ["n"],
        "ahead": ["row"],
        "behind": ["row"],
        "flipped_row": ["row"],
        "starts": ["row"],
        "stops": ["row"],
        "row_word": ["row"],
        "row_of": ["n", "word"],
        "slid": ["one", "other"],
    },
    "forms": {
        "checked_form": ["n", "form"],
        "form_word": ["n", "form"],
        "form": ["n", "word"],
        "same": ["n", "one", "other"],
        "form_joined": ["n", "one", "other"],
        "form_turned": ["n", "one"],
    },
    "parts": {
        "parted": ["n", "word"],
    },
    "unfolding": {
        "unfolded": ["n", "word"],
    },
    "ways": {
        "way": ["n", "one", "other"],
    },
    "strings": {
        "without": ["n", "word", "s"],
        "doubled": ["n", "word", "s"],
    },
    "pictures": {
        "picture": ["n", "word"],
        "read_picture": ["text"],
    },
    "summits": {
        "rolled_down": ["n", "form"],
        "rolled_up": ["n", "form"],
        "summit": ["n", "word"],
        "summits": ["n", "word", "most"],
    },
    "likeness": {
        "alike": ["n", "one", "other", "most"],
    },
    "loom": {
        "Loom": ["n"],
    },
    "asking": {
        "combed": ["text"],
        "compared": ["text", "other"],
    },
}
LOOM = {
    "hang": ["word"],
    "drop": ["many"],
    "go": ["move"],
    "undo": [],
    "now": [],
    "form_now": [],
    "rings_now": [],
}


class Interface(unittest.TestCase):
    def test_names_and_arguments(self):
        for module_name, deeds in INTERFACE.items():
            module = importlib.import_module("braidcomb." + module_name)
            for name, arguments in deeds.items():
                with self.subTest(module=module_name, name=name):
                    self.assertEqual(list(inspect.signature(getattr(module, name)).parameters), arguments)

    def test_methods_of_a_loom(self):
        for name, arguments in LOOM.items():
            self.assertEqual(list(inspect.signature(getattr(Loom(3), name)).parameters), arguments)

    def test_values_that_may_be_left_out(self):
        left_out = {}
        for module_name, deeds in INTERFACE.items():
            module = importlib.import_module("braidcomb." + module_name)
            for name in deeds:
                for each in inspect.signature(getattr(module, name)).parameters.values():
                    if each.default is not inspect.Parameter.empty:
                        left_out[name] = (each.name, each.default)
        self.assertEqual(left_out, {"summits": ("most", 24), "alike": ("most", 24)})


if __name__ == "__main__":
    unittest.main()
