"""The interface: each name is there, and takes as many arguments as told."""

import importlib
import inspect
import unittest

COUNTS = {
    "sheets": {
        "is_meeting": 1, "is_sheet": 1, "overlap": 2, "meeting_of": 2, "names_at": 2, "partners": 2,
        "with_meeting": 4, "without_meeting": 2, "with_times": 4, "moved": 3, "stretched": 3,
    },
    "loads": {"load_at": 2, "most_at_once": 1, "tight_moment": 1, "busy": 1, "steps": 1, "worth_of": 1},
    "columns": {
        "groups": 1, "group_of": 2, "columns": 1, "width_of": 2, "part_of": 2, "boxes": 1, "name_at_place": 4,
        "is_laid": 2, "do_cross": 2,
    },
    "days": {
        "day_of": 1, "days_of": 1, "pieces": 1, "long_ones": 1, "short_ones": 1, "day_sheet": 2, "bars": 3,
        "rows_needed": 3, "hidden": 4, "is_long": 1,
    },
    "zones": {
        "is_zone": 1, "shown_at": 2, "moments_shown": 2, "first_shown": 2, "jumps": 1, "tidy_zone": 1, "between": 3,
    },
    "gaps": {"gaps": 3, "long_gaps": 4, "common_gaps": 3, "first_time": 4, "busy_at": 3, "best_time": 4},
    "choosing": {
        "most_apart": 1, "fewest_moments": 1, "weightiest": 2, "are_apart": 1, "are_met": 2, "is_paper": 3,
    },
    "rooms": {"rooms_needed": 1, "room_plan": 2, "fitting_plan": 3, "room_changes": 3},
    "series": {
        "is_series": 1, "goes_with_itself": 1, "times_of": 1, "as_sheet": 1, "without_time": 2, "parted": 2,
        "first_clash": 2,
    },
    "texts": {"written": 1, "read": 1},
    "comparing": {
        "unlike_names": 2, "common": 2, "merged": 2, "shared_time": 2, "shifted": 2, "turned_about": 2,
    },
    "binders": {"Binder": 0, "binder_text": 1, "read_binder": 1},
}
BINDER = {
    "lay": 2, "sheet_of": 1, "take": 1, "add": 4, "drop": 2, "shift": 2, "merge": 2, "names": 0, "back": 0, "forth": 0,
    "marks": 0, "twin": 0,
}


class InterfaceTest(unittest.TestCase):
    def test_functions_and_their_arguments(self):
        for module, counts in COUNTS.items():
            found = importlib.import_module("daysheet." + module)
            for name, count in counts.items():
                with self.subTest(module=module, name=name):
                    self.assertEqual(len(inspect.signature(getattr(found, name)).parameters), count)

    def test_binders_methods_and_their_arguments(self):
        binder = importlib.import_module("daysheet.binders").Binder()
        for name, count in BINDER.items():
            with self.subTest(name=name):
                self.assertEqual(len(inspect.signature(getattr(binder, name)).parameters), count)


if __name__ == "__main__":
    unittest.main()
