"""The interface: names and arguments as the document has them."""

import importlib
import inspect
import unittest

INTERFACE = {
    "words": {
        "checked": ["n", "word"],
        "turned": ["word"],
        "mirrored": ["word"],
        "upturned": ["word"],
        "flipped": ["n", "word"],
        "trimmed": ["word"],
        "order_of": ["n", "word"],
    },
    "wordtext": {
        "written": ["n", "word"],
        "read_text": ["text"],
    },
    "moves": {
        "moved": ["n", "word", "move"],
        "moves_of": ["word"],
        "move_back": ["n", "word", "move"],
    },
    "counts": {
        "sum_of": ["word"],
        "table": ["n", "word"],
        "rings": ["n", "word"],
        "linked": ["n", "word"],
        "profile": ["n", "word"],
    },
    "rows": {
        "checked_row": ["row"],
        "straight": ["n"],
        "half": ["n"],
        "ahead": ["row"],
        "behind": ["row"],
        "flipped_row": ["row"],
        "starts": ["row"],
        "stops": ["row"],
        "row_word": ["row"],
        "row_of": ["n", "word"],
        "slid": ["one", "other"],
    },
    "forms": {
        "checked_form": ["n", "form"],
        "form_word": ["n", "form"],
        "form": ["n", "word"],
        "same": ["n", "one", "other"],
        "form_joined": ["n", "one", "other"],
        "form_turned": ["n", "one"],
    },
    "parts": {
        "parted": ["n", "word"],
    },
    "unfolding": {
        "unfolded": ["n", "word"],
    },
    "ways": {
        "way": ["n", "one", "other"],
    },
    "strings": {
        "without": ["n", "word", "s"],
        "doubled": ["n", "word", "s"],
    },
    "pictures": {
        "picture": ["n", "word"],
        "read_picture": ["text"],
    },
}


class Interface(unittest.TestCase):
    def test_names_and_arguments(self):
        for module_name, deeds in INTERFACE.items():
            module = importlib.import_module("braidcomb." + module_name)
            for name, arguments in deeds.items():
                with self.subTest(module=module_name, name=name):
                    self.assertEqual(list(inspect.signature(getattr(module, name)).parameters), arguments)


if __name__ == "__main__":
    unittest.main()
