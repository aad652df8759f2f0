"""The error classes: points 4 and 5, and the interface of huewalks.errors."""

import unittest

from huewalks import errors
from helpers import ERROR_ATTRIBUTES

BAD_AT_CLASSES = (
    "BadWeb", "BadOrder", "BadWalk", "BadBounds", "BadHueing",
    "BadLaying", "BadThings", "BadTable", "BadPoints", "BadPaper",
)

# Each class with its attributes and two values for each of them.
CLASSES = {name: {"bad_at": (None, 7)} for name in BAD_AT_CLASSES}
CLASSES["BadNumber"] = {}
CLASSES["BadText"] = {"line_number": (0, 12)}
CLASSES["TooMany"] = {"most": (200, 2000)}
CLASSES["TooLong"] = {"road_hue": (0, 3), "road_walk": ((), (0, 1, 2))}
CLASSES["RowTooLong"] = {"row_most": (0, 10 ** 60)}
CLASSES["Unhued"] = {"bare_walk": ((), (4, 4))}
CLASSES["Ended"] = {}


class ErrorsTest(unittest.TestCase):

    def test_seventeen_classes_and_their_base(self):
        self.assertEqual(len(CLASSES), 17)
        self.assertEqual(errors.HueError.__bases__, (ValueError,))
        for name in CLASSES:
            self.assertEqual(getattr(errors, name).__bases__, (errors.HueError,), name)

    def test_attributes_by_position_and_by_name(self):
        for name, attributes in CLASSES.items():
            for k in range(2):
                told = {key: values[k] for key, values in attributes.items()}
                for error in (getattr(errors, name)(*told.values()), getattr(errors, name)(**told)):
                    for key, value in told.items():
                        self.assertIs(type(getattr(error, key)), type(value), name)
                        self.assertEqual(getattr(error, key), value, name)

    def test_names_of_the_two_attributes_of_too_long_in_any_order(self):
        error = errors.TooLong(road_walk=(1, 2), road_hue=5)
        self.assertEqual((error.road_hue, error.road_walk), (5, (1, 2)))

    def test_no_attribute_of_another_class(self):
        for name, attributes in CLASSES.items():
            error = getattr(errors, name)(*[values[1] for values in attributes.values()])
            held = [key for key in ERROR_ATTRIBUTES if hasattr(error, key)]
            self.assertEqual(sorted(held), sorted(attributes), name)

    def test_no_attribute_without_arguments(self):
        self.assertEqual(vars(errors.BadNumber()), {})
        self.assertEqual(vars(errors.Ended()), {})

    def test_an_error_is_raised_and_caught_by_its_base_classes(self):
        for name, attributes in CLASSES.items():
            for base in (errors.HueError, ValueError):
                with self.assertRaises(base):
                    raise getattr(errors, name)(*[values[0] for values in attributes.values()])


if __name__ == "__main__":
    unittest.main()
