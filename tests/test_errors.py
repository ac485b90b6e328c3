import unittest

from mingleway import errors

UNDER = {
    "MingleError": ValueError, "Missing": LookupError, "Busy": RuntimeError, "NoShare": ZeroDivisionError,
    "BadSize": "MingleError", "BadNumber": "MingleError", "BadRow": "MingleError", "BadName": "MingleError",
    "BadLine": "MingleError", "BadHearers": "MingleError", "BadLoss": "MingleError", "BadPlan": "MingleError",
    "BadDeed": "MingleError", "BadText": "MingleError", "Ringed": "MingleError", "Short": "MingleError",
    "Narrow": "MingleError", "Heavy": "MingleError", "Unsolved": "MingleError",
    "NoHouse": "Missing", "NoLine": "Missing",
    "Taken": "Busy", "Full": "Busy", "InUse": "Busy", "Told": "Busy", "NothingLeft": "Busy",
}
FIELDS = {
    "BadText": {"row": 7}, "Ringed": {"around": [3, 1, 2]}, "Heavy": {"tries": 5000},
    "Short": {"hearer": "b", "loss": (2, 4), "within": ["a", "c"]},
    "NoHouse": {"name": "x"}, "NoLine": {"number": 12}, "InUse": {"number": 3},
}


class TestErrors(unittest.TestCase):
    def test_each_class_is_straight_under_its_own(self):
        for name, base in UNDER.items():
            with self.subTest(name):
                wanted = getattr(errors, base) if isinstance(base, str) else base
                self.assertEqual(getattr(errors, name).__bases__, (wanted,))

    def test_there_are_no_other_classes(self):
        found = [name for name, thing in vars(errors).items() if isinstance(thing, type)]
        self.assertEqual(sorted(found), sorted(UNDER))

    def test_those_without_fields_are_made_with_a_text_or_with_nothing(self):
        for name in UNDER:
            if name not in FIELDS:
                with self.subTest(name):
                    made = getattr(errors, name)
                    self.assertEqual(str(made("why")), "why")
                    self.assertIsInstance(made(), made)

    def test_fields_in_their_order(self):
        for name, fields in FIELDS.items():
            with self.subTest(name):
                made = getattr(errors, name)(*fields.values())
                self.assertEqual({field: getattr(made, field) for field in fields}, fields)

    def test_fields_by_keywords(self):
        for name, fields in FIELDS.items():
            with self.subTest(name):
                made = getattr(errors, name)(**dict(reversed(fields.items())))
                self.assertEqual({field: getattr(made, field) for field in fields}, fields)

    def test_fields_are_wanted_but_of_bad_text(self):
        for name in FIELDS:
            if name != "BadText":
                with self.subTest(name), self.assertRaises(TypeError):
                    getattr(errors, name)()
        self.assertEqual(errors.BadText().row, 0)

    def test_handed_lists_are_kept_as_copies(self):
        around, within = [1, 2], ["a"]
        ringed, short = errors.Ringed(around), errors.Short("b", (), within)
        around.append(3)
        within.append("c")
        self.assertEqual((ringed.around, short.within), ([1, 2], ["a"]))
        self.assertNotIn(around, ringed.args)
        self.assertNotIn(within, short.args)

    def test_fields_are_set_where_the_error_is_raised(self):
        with self.assertRaises(errors.Missing) as caught:
            raise errors.NoLine(4)
        self.assertEqual(caught.exception.number, 4)
        with self.assertRaises(errors.Busy) as caught:
            raise errors.InUse(5)
        self.assertEqual(caught.exception.number, 5)


if __name__ == "__main__":
    unittest.main()
