"""The interface: each name is there, and takes as many arguments as told."""

import importlib
import inspect
import unittest

COUNTS = {
    "sheets": {
        "is_meeting": 1, "is_sheet": 1, "overlap": 2, "meeting_of": 2, "names_at": 2, "partners": 2,
        "with_meeting": 4, "without_meeting": 2, "with_times": 4, "moved": 3, "stretched": 3,
    },
    "loads": {"load_at": 2, "most_at_once": 1, "tight_moment": 1, "busy": 1, "steps": 1, "worth_of": 1},
}


class InterfaceTest(unittest.TestCase):
    def test_functions_and_their_arguments(self):
        for module, counts in COUNTS.items():
            found = importlib.import_module("daysheet." + module)
            for name, count in counts.items():
                with self.subTest(module=module, name=name):
                    self.assertEqual(len(inspect.signature(getattr(found, name)).parameters), count)


if __name__ == "__main__":
    unittest.main()
