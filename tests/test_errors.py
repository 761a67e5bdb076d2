import unittest

from heardtrue.errors import HeardError, ReadError, ShapeError


class Errors(unittest.TestCase):
    def test_the_classes_stand_under_heard_error(self):
        self.assertEqual(HeardError.__bases__, (ValueError,))
        self.assertEqual(ShapeError.__bases__, (HeardError,))
        self.assertEqual(ReadError.__bases__, (HeardError,))

    def test_shape_error_is_read_by_its_name(self):
        with self.assertRaises(HeardError) as caught:
            raise ShapeError("bits")
        self.assertEqual(caught.exception.name, "bits")
        self.assertEqual(ShapeError(name="taps").name, "taps")

    def test_read_error_is_read_by_its_place(self):
        with self.assertRaises(ValueError) as caught:
            raise ReadError(7)
        self.assertEqual(caught.exception.place, 7)
        self.assertEqual(ReadError(place=0).place, 0)

    def test_what_is_created_twice_is_apart(self):
        self.assertEqual([ShapeError("a").name, ShapeError("b").name], ["a", "b"])


if __name__ == "__main__":
    unittest.main()
