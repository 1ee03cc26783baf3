import unittest
from random import Random

from sums import FRACTIONS, raised, wholes
from untaughthelm.errors import BadText
from untaughthelm.fields import Field
from untaughthelm.plants import Plant
from untaughthelm.planttext import parse_plant, plant_text

SHAPES = tuple((size, inputs) for size in (1, 2, 3, 4) for inputs in (1, 2, 3))
WHOLE = "fractions | 1 1/2, 0 -3 | 0, 1"

# Words that parse of the fractions refuses; none holds a sign at which a text is cut.
NO_NUMBERS = ("", "+1", "01", "-0", "1/1", "2/4", "1/0", "1/-2", "/2", "1/", "a", "1.5", "1e3", "--1", "1,", ",1", "1,2",
              "\t1", "1\n", "1_0", "\u0661", "0x1", "None", "1|", "1" * 201, "-" + "1" * 201, "1/" + "3" * 201)


class Texts(unittest.TestCase):
    def test_the_examples(self):
        plant = Plant(FRACTIONS, [[(1, 1), (1, 2)], [(0, 1), (-3, 1)]], [[(0, 1)], [(1, 1)]])
        self.assertEqual(plant_text(plant), WHOLE)
        self.assertEqual(parse_plant(WHOLE), plant)
        rests = Plant(Field(7), [[(6, 1)]], [[(1, 1), (0, 1)]])
        self.assertEqual(plant_text(rests), "mod 7 | 6 | 1 0")
        self.assertEqual(parse_plant("mod 7 | 6 | 1 0"), rests)
        self.assertEqual(parse_plant(text=plant_text(plant=rests)), rests)

    def test_what_is_read(self):
        plant = parse_plant(WHOLE)
        self.assertIsInstance(plant, Plant)
        self.assertEqual((plant.field, plant.size, plant.inputs), (FRACTIONS, 2, 1))
        self.assertEqual((plant.a, plant.b), ((((1, 1), (1, 2)), wholes(0, -3)), (wholes(0), wholes(1))))

    def some_number(self, field, source, figures):
        if field.prime is not None:
            return source.randrange(field.prime), 1
        low, high = 10 ** (figures - 1), 10 ** figures - 1
        return field.number(source.choice((-1, 1)) * source.randint(low, high),
                            source.choice((1, source.randint(low, high))))

    def test_there_and_back(self):
        source = Random(3)
        for field in (FRACTIONS, Field(2), Field(7), Field(97)):
            for size, inputs in SHAPES:
                for figures in (1, 2, 30, 200):
                    def row(width):
                        return [self.some_number(field, source, figures) for _ in range(width)]
                    plant = Plant(field, [row(size) for _ in range(size)], [row(inputs) for _ in range(size)])
                    text = plant_text(plant)
                    self.assertEqual(parse_plant(text), plant)
                    self.assertEqual(plant_text(parse_plant(text)), text)

    def test_the_text_by_its_rule(self):
        source = Random(4)
        for field, first in ((FRACTIONS, "fractions"), (Field(2), "mod 2"), (Field(7), "mod 7"), (Field(97), "mod 97")):
            for size, inputs in SHAPES:
                a = [[self.some_number(field, source, 3) for _ in range(size)] for _ in range(size)]
                b = [[self.some_number(field, source, 3) for _ in range(inputs)] for _ in range(size)]
                parts = [first] + [", ".join(" ".join(field.text(number) for number in row) for row in table)
                                   for table in (a, b)]
                self.assertEqual(plant_text(Plant(field, a, b)), " | ".join(parts))

    def test_all_primes(self):
        for prime in range(-3, 120):
            text = f"mod {prime} | 0 | 1"
            if prime in (2, 3, 5, 7, 11, 13, 17, 19, 23, 29, 31, 37, 41, 43, 47, 53, 59, 61, 67, 71, 73, 79, 83, 89, 97):
                self.assertEqual(parse_plant(text), Plant(Field(prime), [wholes(0)], [wholes(1)]))
                self.assertEqual(plant_text(parse_plant(text)), text)
            else:
                self.assertEqual(raised(parse_plant, text), (BadText, (0,)), text)

    def test_long_numbers(self):
        long, longer = int("7" * 200), int("7" * 201)
        for a, b, fault in (((long, 1), (1, 1), None), ((-long, 1), (1, 1), None), ((1, long), (1, 1), None),
                            ((long, long + 1), (-long, long + 2), None), ((longer, 1), (1, 1), 1),
                            ((-longer, 1), (1, 1), 1), ((1, longer), (1, 1), 1), ((long, longer), (1, 1), 1),
                            ((1, 1), (longer, 1), 2), ((1, 1), (1, longer), 2), ((1, 1), (-longer, long), 2),
                            ((longer, 1), (longer, 1), 1)):
            plant = Plant(FRACTIONS, [[FRACTIONS.number(*a)]], [[FRACTIONS.number(*b)]])
            text = plant_text(plant)
            self.assertIn(FRACTIONS.text(plant.a[0][0]), text)
            self.assertIn(FRACTIONS.text(plant.b[0][0]), text)
            if fault is None:
                self.assertEqual(parse_plant(text), plant)
            else:
                self.assertEqual(raised(parse_plant, text), (BadText, (fault,)))


class Refusals(unittest.TestCase):
    def refused(self, text, place):
        self.assertEqual(raised(parse_plant, text), (BadText, (place,)), text)

    def test_things_that_are_no_strings(self):
        for thing in (None, 3, True, b"mod 7 | 6 | 1 0", ["mod 7", "6", "1 0"], ("mod 7 | 6 | 1 0",),
                      {"mod 7 | 6 | 1 0": 1}, parse_plant(WHOLE)):
            self.refused(thing, 0)

    def test_not_three_parts(self):
        for text in ("", " ", "fractions", "fractions | 1", "fractions | 1 | 1 | 1", "fractions | 1 | 1 | ",
                     " | fractions | 1 | 1", "fractions|1|1", "fractions | 1 |1", "fractions| 1 | 1", "fractions |1 | 1",
                     "fractions | 1| 1", "fractions | | 1", "fractions, 1, 1", "fractions\t|\t1\t|\t1",
                     "fractions | 1 / 1", "fractions | x", "fractions | x | x | x"):
            self.refused(text, 0)

    def test_first_part(self):
        for first in ("", " fractions", "fractions ", "Fractions", "fraction", "fractions 7", "mod", "mod ", "mod  7",
                      " mod 7", "mod 7 ", "mod7", "mod\t7", "Mod 7", "mod 07", "mod 4", "mod 1", "mod 0", "mod 101",
                      "mod -7", "mod +7", "mod 7/1", "mod 7/2", "mod 14/2", "mod 7.0", "mod x", "mod 7 7", "mod mod 7",
                      "mod 9", "mod 97x", "mod " + "7" * 300, "mod None", "7", "mod \u0667", "mod 5/1", "fractions\n"):
            for rest in ("0 | 1", "x | x", "0 | x"):
                self.refused(first + " | " + rest, 0)

    def test_rows_of_the_second_part(self):
        for second in ("", "1 2", "1, 2", "1 2, 3", "1, 2 3", "1 2 3, 4 5 6", "1 0, 0 1, 1 1", "1 0 0, 0 1 0",
                       "1 0 0, 0 1 0, 0 0", "1 0 0, 0 1 0, 0 0 1 0", "1 0, 0 1,", "1 0, 0 1, ", ", 1 0, 0 1", "1 0,0 1",
                       "1 0 ,0 1", "1 0 , 0 1", "1 0,  0 1", "1  0, 0 1", " 1 0, 0 1", "1 0, 0 1 ", "1 0\t0 1", "1 0; 0 1",
                       "1 0, , 0 1", ",", ", ", "  ", ", ".join(["1 0 0 0 0"] * 5), ", ".join(["1 0 0 0"] * 5),
                       ", ".join(["1 0 0 0 0"] * 4)):
            for third in ("0, 1", "1", "x, 1", "", "1 1 1 1", "0, 1, 2"):
                self.refused("fractions | " + second + " | " + third, 1)

    def test_words_of_the_second_part(self):
        for word in NO_NUMBERS:
            self.refused("fractions | " + word + " | 1", 1)
            self.refused("fractions | " + word + " | x", 1)
            for second in ("1 0, 0 " + word, "1 " + word + ", 0 1", word + " 0, 0 1"):
                self.refused("fractions | " + second + " | 0, 1", 1)
        for word in ("7", "-1", "1/2", "10", "06", "6/1", "", "x"):
            self.refused("mod 7 | " + word + " | 1", 1)
            self.refused("mod 7 | " + word + " | 7", 1)

    def test_rows_of_the_third_part(self):
        for third in ("", "0", "1 0", "0 1, 1", "0, 1 0", "0, 1, 1", "0 0 0 0, 1 1 1 1", "0 0 0 0, 1", "0,1", "0 ,1", "0 , 1",
                      "0,  1", " 0, 1", "0, 1 ", "0  0, 1 1", "0, 1,", "0, 1, ", ", 0, 1", ", ", ",", " ", "0\t1", "0; 1",
                      "0 0 0, 1 1 1 1", "0, 1 |", "| 0, 1"):
            self.refused("fractions | 1 0, 0 1 | " + third, 2)
        for third in ("1, 1", "1 1 1 1", "", " ", " 1", "1 ", "1  1", "1,", ", 1"):
            self.refused("fractions | 5 | " + third, 2)

    def test_words_of_the_third_part(self):
        for word in NO_NUMBERS:
            self.refused("fractions | 1 | " + word, 2)
            self.refused("fractions | 1 | 1 " + word, 2)
            for third in ("0, " + word, word + ", 0", "1 1 " + word + ", 0 0 0", "1 1 1, 0 " + word + " 0"):
                self.refused("fractions | 1 0, 0 1 | " + third, 2)
        for word in ("7", "-1", "1/2", "10", "06", "6/1", "", "x"):
            self.refused("mod 7 | 1 | " + word, 2)

    def test_the_first_wrong_part_is_told(self):
        self.refused("mod 4 | x | x", 0)
        self.refused("mod 7 | x | x", 1)
        self.refused("mod 7 | 1 2 | 1, 2", 1)
        self.refused("mod 7 | 1 | x", 2)
        self.refused("mod 7 | x | x | x", 0)

    def test_each_row_is_measured_by_the_size(self):
        for size in (1, 2, 3, 4):
            for inputs in (1, 2, 3, 4):
                for rows in (size - 1, size, size + 1):
                    a = ", ".join([" ".join(["0"] * size)] * size)
                    b = ", ".join([" ".join(["1"] * inputs)] * rows)
                    text = f"mod 2 | {a} | {b}"
                    if rows == size and inputs < 4:
                        self.assertEqual(plant_text(parse_plant(text)), text)
                    else:
                        self.refused(text, 2)


if __name__ == "__main__":
    unittest.main()
