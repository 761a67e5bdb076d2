"""Points 9.1 and 9.2: fields."""

import unittest

from heardtrue.fields import Field, is_primitive
from slowfields import carried, primitive
from support import fault, stands_alone

# As many as there are: the numbers of elements that generate, by m.
MANY = {2: 1, 3: 2, 4: 2, 5: 6, 6: 6, 7: 18, 8: 16}


class Numbers(unittest.TestCase):
    def test_all_of_so_many_bits(self):
        for m, many in MANY.items():
            told = [poly for poly in range(2 ** m, 2 ** (m + 1)) if is_primitive(m, poly)]
            self.assertEqual(len(told), many)
            self.assertEqual(told, [poly for poly in range(2 ** m, 2 ** (m + 1)) if primitive(m, poly)])
        # This one can't be divided, but the powers of 2 come round too soon.
        self.assertIs(is_primitive(4, 31), False)
        self.assertIs(is_primitive(8, 285), True)
        self.assertIs(is_primitive(8, 283), False)

    def test_others(self):
        for m in MANY:
            for poly in list(range(-2 ** (m + 1), 2 ** m)) + [2 ** (m + 1), 2 ** (m + 1) + 3, 2 ** 60 + 1, -2 ** 60]:
                self.assertIs(is_primitive(m, poly), False)
        for m, poly in ((3, 7), (2, 11), (4, 11), (3, 19), (3, -11)):
            self.assertIs(is_primitive(m, poly), False)

    def test_field(self):
        for m in range(-1, 11):
            for poly in range(-5, 80):
                right = 2 <= m <= 8 and primitive(m, poly)
                self.assertEqual(fault(Field, m, poly), None if right else "field")
        for m, poly in ((True, 3), (1, 3), (9, 529), (False, 1), (None, 11), (3, None), (3.0, 11), (3, 11.0), ("3", 11),
                        (3, "11"), (3, True), ((3,), 11), (3, [11]), (3, (11,)), (0, 1), (-3, 11)):
            self.assertEqual(fault(Field, m, poly), "field", (m, poly))

    def test_what_it_holds(self):
        field = Field(5, 37)
        self.assertEqual((field.m, field.poly, field.size), (5, 37, 32))


class Elements(unittest.TestCase):
    def test_products(self):
        for m, poly in ((2, 7), (3, 11), (3, 13), (4, 19), (5, 41)):
            field = Field(m, poly)
            for a in range(field.size):
                for b in range(field.size):
                    self.assertEqual(field.times(a, b), carried(a, b, m, poly))
        field = Field(8, 285)
        for a in range(0, 256, 7):
            for b in range(0, 256, 5):
                self.assertEqual(field.times(a, b), carried(a, b, 8, 285))

    def test_inverses(self):
        for m, poly in ((2, 7), (3, 11), (4, 25), (8, 285)):
            field = Field(m, poly)
            for a in range(1, field.size):
                self.assertEqual(field.times(a, field.inverse(a)), 1)
                self.assertTrue(1 <= field.inverse(a) < field.size)

    def test_powers_with_any_exponents(self):
        for m, poly in ((2, 7), (3, 13), (6, 67), (8, 285)):
            field = Field(m, poly)
            self.assertEqual([field.power(0), field.power(1), field.power(2 ** m - 1)], [1, 2, 1])
            for e in list(range(-600, 600)) + [10 ** 30, -10 ** 30]:
                self.assertEqual(field.power(e + 1), carried(field.power(e), 2, m, poly))
            self.assertEqual(sorted(field.power(e) for e in range(2 ** m - 1)), list(range(1, 2 ** m)))
            self.assertEqual(field.times(field.power(-1), 2), 1)

    def test_places(self):
        for m, poly in ((2, 7), (3, 11), (7, 137), (8, 285)):
            field = Field(m, poly)
            self.assertEqual(sorted(field.place(a) for a in range(1, field.size)), list(range(field.size - 1)))
            for a in range(1, field.size):
                self.assertEqual(field.power(field.place(a)), a)


class Kept(unittest.TestCase):
    def test_arguments_stay_and_results_are_new(self):
        field = Field(3, 11)
        stands_alone(self, is_primitive, 3, 11)
        stands_alone(self, field.times, 3, 5)
        stands_alone(self, field.inverse, 5)
        stands_alone(self, field.power, -5)
        stands_alone(self, field.place, 5)


if __name__ == "__main__":
    unittest.main()
