"""The interface: names and arguments as the document has them."""

import importlib
import inspect
import unittest

INTERFACE = {
    "words": {
        "checked": ["n", "word"],
        "turned": ["word"],
        "mirrored": ["word"],
        "upturned": ["word"],
        "flipped": ["n", "word"],
        "trimmed": ["word"],
        "order_of": ["n", "word"],
    },
    "wordtext": {
        "written": ["n", "word"],
        "read_text": ["text"],
    },
    "moves": {
        "moved": ["n", "word", "move"],
        "moves_of": ["word"],
        "move_back": ["n", "word", "move"],
    },
}


class Interface(unittest.TestCase):
    def test_names_and_arguments(self):
        for module_name, deeds in INTERFACE.items():
            module = importlib.import_module("braidcomb." + module_name)
            for name, arguments in deeds.items():
                with self.subTest(module=module_name, name=name):
                    self.assertEqual(list(inspect.signature(getattr(module, name)).parameters), arguments)


if __name__ == "__main__":
    unittest.main()
