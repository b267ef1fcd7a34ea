import unittest

from brooktally import errors

PLAIN = (errors.BadEvent, errors.BadSlack, errors.Broken)
PLACED = (errors.BadStep, errors.BadLine, errors.BadKeep)


class ErrorsTest(unittest.TestCase):
    def test_flow_error_stands_under_value_error(self):
        self.assertEqual(errors.FlowError.__bases__, (ValueError,))

    def test_each_stands_straight_under_flow_error(self):
        for kind in PLAIN + PLACED:
            self.assertEqual(kind.__bases__, (errors.FlowError,), kind)

    def test_none_stands_under_another_one(self):
        for kind in PLAIN + PLACED:
            for other in PLAIN + PLACED:
                self.assertEqual(issubclass(kind, other), kind is other, (kind, other))

    def test_place_is_told(self):
        for kind in PLACED:
            for place in (0, 1, 29, 1000, None):
                self.assertEqual(kind(place).place, place)
                self.assertEqual(kind(place=place).place, place)

    def test_place_is_wanted(self):
        for kind in PLACED:
            with self.assertRaises(TypeError):
                kind()

    def test_each_is_taken_by_its_own_class_and_those_above(self):
        made = [kind("words") for kind in PLAIN] + [kind(3) for kind in PLACED]
        for error in made:
            for above in (type(error), errors.FlowError, ValueError):
                with self.assertRaises(above):
                    raise error


if __name__ == "__main__":
    unittest.main()
