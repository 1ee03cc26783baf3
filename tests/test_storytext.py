import unittest

from desks import WORDS, Drawer, told_by
from sums import FRACTIONS, plant_of, raised, wholes
from test_desk import sessions
from timing import Timed
from untaughthelm.boxes import Bounds, Box
from untaughthelm.desk import Desk, retell_story
from untaughthelm.errors import BadText
from untaughthelm.fields import Field
from untaughthelm.plants import Plant
from untaughthelm.planttext import plant_text
from untaughthelm.stories import Story
from untaughthelm.storytext import parse_story, story_text

ZERO = (0, 1)
ONE = (1, 1)
HALF = (1, 2)
PLANT = plant_of(FRACTIONS, [[0, 1], [2, -3]], [[0], [1]])
TEXT = plant_text(PLANT)
HEAD = "desk | fractions | 2 | 1"
SEVEN = "desk | mod 7 | 2 | 1"
BOX = Box([(-1, 1), HALF], [ONE, (3, 1)])

# Deeds of a desk of two states and one input, each with its row.
ROWS = (
    (("plant", PLANT), "plant | fractions | 0 1, 2 -3 | 0, 1"),
    (("begin", ((-1, 2), (3, 1))), "begin | -1/2 3"),
    (("put", (HALF,)), "put | 1/2"),
    (("ahead",), "ahead"),
    (("push", wholes(0, -7)), "push | 0 -7"),
    (("exchange", PLANT), "exchange | fractions | 0 1, 2 -3 | 0, 1"),
    (("late", 0), "late | 0"),
    (("late", 999), "late | 999"),
    (("goal", 1, wholes(0, 0)), "goal | 1 | 0 0"),
    (("goal", None, wholes(0, 5)), "goal | any | 0 5"),
    (("goal", 77, (HALF, HALF)), "goal | 77 | 1/2 1/2"),
    (("rest", 1, True), "rest | 1 | pushed"),
    (("rest", 2, False), "rest | 2 | still"),
    (("keep", (HALF, ZERO), 2, BOX, Bounds([None], [(3, 1)])), "keep | 1/2 0 | 2 | -1 1/2 | 1 3 | none | 3"),
    (("keep", wholes(0, -1), 999, BOX, Bounds([HALF], [None])), "keep | 0 -1 | 999 | -1 1/2 | 1 3 | 1/2 | none"),
    (("tick",), "tick"),
    (("go on", 20), "go on | 20"),
    (("go on", 0), "go on | 0"),
    (("row", wholes(1, 2), wholes(3), wholes(4, 5)), "row | 1 2 | 3 | 4 5"),
    (("cut", 0, 10), "cut | 0 | 10"),
    (("cut", 100, 9), "cut | 100 | 9"),
)


class Texts(unittest.TestCase):
    def test_each_kind_of_deed(self):
        for deed, row in ROWS:
            for deeds, text in (((deed,), HEAD + "\n" + row), ((("tick",), deed, ("tick",)), "\n".join((HEAD, "tick", row, "tick")))):
                story = Story(FRACTIONS, 2, 1, deeds)
                self.assertEqual(story_text(story), text)
                self.assertEqual(parse_story(text), story)
        self.assertEqual({deed[0] for deed, _ in ROWS}, set(WORDS) - {"back"})
        story = Story(FRACTIONS, 2, 1, tuple(deed for deed, _ in ROWS))
        self.assertEqual(story_text(story), "\n".join([HEAD] + [row for _, row in ROWS]))
        self.assertEqual(parse_story(text=story_text(story=story)), story)

    def test_the_example(self):
        deeds = (("keep", ((1, 10),), 0, Box([(-1, 1)], [(1, 1)]), Bounds([None], [(3, 1)])), ("ahead",))
        text = story_text(Story(FRACTIONS, 1, 1, deeds))
        self.assertEqual(text.split("\n")[1:], ["keep | 1/10 | 0 | -1 | 1 | none | 3", "ahead"])
        self.assertEqual(parse_story(text), Story(FRACTIONS, 1, 1, deeds))

    def test_no_deeds(self):
        for prime, word in ((None, "fractions"), (2, "mod 2"), (97, "mod 97")):
            for size in (1, 2, 3, 4):
                for inputs in (1, 2, 3):
                    story = Story(Field(prime), size, inputs, ())
                    self.assertEqual(story_text(story), f"desk | {word} | {size} | {inputs}")
                    self.assertEqual(parse_story(story_text(story)), story)

    def test_lists(self):
        deeds = [["begin", [ZERO, HALF]], ["row", [ONE, ONE], [ONE], [ZERO, ZERO]], ["keep", [HALF, ONE], 0, BOX, Bounds([None], [None])]]
        text = story_text(Story(FRACTIONS, 2, 1, deeds))
        self.assertEqual(text, HEAD + "\nbegin | 0 1/2\nrow | 1 1 | 1 | 0 0\nkeep | 1/2 1 | 0 | -1 1/2 | 1 3 | none | none")
        self.assertEqual(deeds[0], ["begin", [ZERO, HALF]])
        self.assertEqual(parse_story(text).deeds[0], ("begin", (ZERO, HALF)))

    def test_by_rests(self):
        plant = plant_of(Field(7), [[6, 0], [1, 2]], [[3], [4]])
        story = Story(Field(7), 2, 1, (("plant", plant), ("begin", wholes(6, 0)), ("put", wholes(5)), ("goal", None, wholes(0, 0))))
        text = SEVEN + "\nplant | mod 7 | 6 0, 1 2 | 3, 4\nbegin | 6 0\nput | 5\ngoal | any | 0 0"
        self.assertEqual(story_text(story), text)
        self.assertEqual(parse_story(text), story)

    def test_drawn_stories(self):
        for field, size, inputs, deeds in sessions():
            desk = Desk(field, size, inputs)
            for deed in deeds:
                told_by(desk, deed, desk.take_deed)
            story = desk.tell_story()
            text = story_text(story)
            self.assertEqual(len(text.split("\n")), len(desk.deeds) + 1)
            self.assertEqual(parse_story(text), story)
            self.assertEqual(retell_story(parse_story(text)), desk)

    def test_several_inputs(self):
        box = Box(wholes(0, 0), wholes(1, 1))
        deeds = (("put", (HALF, ZERO, (-1, 1))), ("keep", wholes(0, 0), 1, box, Bounds([None, ZERO, None], [ONE, None, None])))
        text = "desk | fractions | 2 | 3\nput | 1/2 0 -1\nkeep | 0 0 | 1 | 0 0 | 1 1 | none 0 none | 1 none none"
        self.assertEqual(story_text(Story(FRACTIONS, 2, 3, deeds)), text)
        self.assertEqual(parse_story(text), Story(FRACTIONS, 2, 3, deeds))

    def test_whether_deeds_can_be_made_is_not_looked_at(self):
        text = HEAD + "\ntick\ncut | 9 | 3\nlate | 7\ngoal | 0 | 1 1\ngo on | 21\nkeep | -1 -1 | 3 | 0 0 | 1 1 | none | none\nput | 1"
        story = parse_story(text)
        self.assertEqual([deed[0] for deed in story.deeds], ["tick", "cut", "late", "goal", "go on", "keep", "put"])
        self.assertEqual(story_text(story), text)


class Refused(unittest.TestCase):
    def check(self, place, text):
        self.assertEqual(raised(parse_story, text), (BadText, (place,)))

    def bad_row(self, *rows, head=HEAD):
        for row in rows:
            self.check(1, head + "\n" + row)
            self.check(1, head + "\n" + row + "\n" + row)
            self.check(3, "\n".join((head, "tick", "put | 1", row, "tick")))

    def test_no_strings(self):
        for text in (None, 3, b"desk", [HEAD], (HEAD,), True, {}):
            self.check(0, text)

    def test_the_first_row(self):
        for row in ("", " ", "desk", "desk | fractions | 2", "desk | fractions | 2 | 1 | 1", "desk | fractions | 2 | 1 | ", " " + HEAD, HEAD + " ",
                    "Desk | fractions | 2 | 1", "desk| fractions | 2 | 1", "desk | Fractions | 2 | 1", "desk | mod 4 | 2 | 1",
                    "desk | mod 07 | 2 | 1", "desk | mod 101 | 2 | 1", "desk | mod | 2 | 1", "desk |  | 2 | 1", "desk | 7 | 2 | 1",
                    "desk | fractions | 0 | 1", "desk | fractions | 5 | 1", "desk | fractions | 02 | 1", "desk | fractions | -2 | 1",
                    "desk | fractions | 2 | 0", "desk | fractions | 2 | 4", "desk | fractions | 2 | 01", "desk | fractions | 2 | +1",
                    "desk | fractions | 2/1 | 1", "desk | fractions | 3/2 | 1", "desk | fractions | 2 | 1/2", "desk | fractions |  | 1",
                    "desk | fractions | 2 | ", "desk | fractions | two | 1", "desk | fractions | 2 | 1\r", "tick", "ahead",
                    "begin | 1 2", TEXT, "desk | fractions | 2.0 | 1", "desk | fractions | \u0662 | 1"):
            self.check(0, row)
            self.check(0, row + "\ntick")
            self.check(0, row + "\nwrong")
            self.check(0, "\n" + row)

    def test_empty_rows(self):
        self.check(1, HEAD + "\n")
        self.check(2, HEAD + "\ntick\n")
        self.check(1, HEAD + "\n\n")
        self.check(1, HEAD + "\n\ntick")
        self.check(1, HEAD + "\n ")

    def test_words(self):
        self.bad_row(HEAD, SEVEN, "back", "Tick", "TICK", "tick ", " tick", "ticks", "go", "goon | 3", "go  on | 3", "stay", "|", " | ", "tick\r",
                     "tick\t", "state | 1 2", "back | 1")

    def test_numbers_of_parts(self):
        for deed, row in ROWS:
            parts = row.split(" | ")
            self.bad_row(row + " | 1", row + " | ", " | " + row, row + " |", row + " ", " " + row, row + " | " + parts[-1])
            if len(parts) > 1:
                self.bad_row(" | ".join(parts[:-1]), parts[0], row.replace(" | ", "|"), row.replace(" | ", "  |  "), parts[0] + " | ")

    def test_numbers(self):
        for number in ("", "01", "-0", "+1", "1/1", "2/4", "1/0", "1/-2", "1.5", "x", "none", "any", "1/2/3", "\u0661", "--1", "0/2", "1 1 1"):
            self.bad_row("begin | 1 " + number, "begin | " + number + " 1", "put | " + number + ("" if " " in number else " "),
                         "row | 1 1 | 1 | 1 " + number, "row | 1 " + number + " | 1 | 1 1", "goal | 1 | 1 " + number,
                         "push | 1 " + number, "keep | 1 " + number + " | 0 | 0 0 | 1 1 | none | none")
            if number not in ("none",):
                self.bad_row("keep | 1 1 | 0 | 0 0 | 1 1 | none | " + number, "keep | 1 1 | 0 | 0 0 | 1 1 | " + number + " | none")
            self.bad_row("keep | 1 1 | 0 | 0 " + number + " | 9 9 | none | none", "keep | 1 1 | 0 | -9 -9 | 0 " + number + " | none | none")
        self.bad_row("begin | 1", "begin | 1 1 1", "begin | 1  1", "begin |  1 1", "begin | 1 1 ", "put | 1 1", "row | 1 1 | 1 1 | 1 1",
                     "row | 1 1 | 1 | 1", "push | 1", "goal | 1 | 0", "keep | 0 | 0 | 0 0 | 1 1 | none | none")
        self.bad_row("begin | 7 1", "begin | -1 1", "begin | 1/2 1", "put | 7", "put | -1", "goal | any | 0 7", "push | 0 8", head=SEVEN)

    def test_whole_numbers(self):
        for number in ("", "01", "00", "-1", "-0", "+1", "1000", "1/2", "1/1", "1.0", "any", "none", "x", "12345678901", "1e1", "\u0661", "1 1"):
            self.bad_row("late | " + number, "rest | " + number + " | still", "go on | " + number, "cut | " + number + " | 1",
                         "cut | 1 | " + number, "keep | 0 0 | " + number + " | 0 0 | 1 1 | none | none")
            if number != "any":
                self.bad_row("goal | " + number + " | 0 0")
        for word in ("", "any", "True", "pushed ", "Still", "0", "none"):
            self.bad_row("rest | 1 | " + word)

    def test_plants(self):
        for word in ("plant | ", "exchange | "):
            self.bad_row(word + "mod 7 | 0 1, 2 3 | 0, 1", word + "fractions | 0 | 1", word + "fractions | 0 1, 2 3 | 0 1, 1 1",
                         word + "fractions | 0 1, 2 3 | 0", word + "fractions | 0 1, 2 | 0, 1", word + "fractions | 0 1, 2 x | 0, 1",
                         word + "fractions | 0 1,2 3 | 0, 1", word + "fractions | 0 1, 2 3 | 0,1", word + "fraction | 0 1, 2 3 | 0, 1",
                         word + "fractions | 0 1, 2 3", word + "fractions | 0 1, 2 3 | 0, 1 | 1", word + "fractions | 0 1 0, 2 3 0, 0 0 0 | 0, 1, 0",
                         word.strip(), word + "fractions", word + "0 1, 2 3 | 0, 1")
            self.bad_row(word + TEXT, word + "mod 5 | 0 1, 2 3 | 0, 1", word + "mod 7 | 0 7, 2 3 | 0, 1", head=SEVEN)
            self.assertEqual(len(parse_story(SEVEN + "\n" + word + "mod 7 | 0 1, 2 3 | 0, 1").deeds), 1)

    def test_boxes_and_bounds(self):
        keep = "keep | 0 0 | 0 | "
        self.assertEqual(len(parse_story(HEAD + "\n" + keep + "0 0 | 1 1 | 1 | 1").deeds), 1)
        self.bad_row(keep + "0 0 | 1 0 | none | none", keep + "0 0 | 0 1 | none | none", keep + "0 2 | 1 1 | none | none",
                     keep + "0 none | 1 1 | none | none", keep + "0 0 | 1 none | none | none", keep + "0 | 1 | none | none",
                     keep + "0 0 0 | 1 1 1 | none | none", keep + "0 0 | 1 | none | none", keep + "0 0 | 1 1 | 1 | 0",
                     keep + "0 0 | 1 1 | 1 | 1/2", keep + "0 0 | 1 1 | none none | none none", keep + "0 0 | 1 1 | none | none none",
                     keep + "0 0 | 1 1 | none", keep + "0 0 | 1 1", keep + "0 0 | 1 1 | None | none", keep + "0 0 | 1 1 | none | none | none",
                     keep + "0 0 | 1 1 |  | none")

    def test_keep_by_a_prime(self):
        self.bad_row("keep | 0 0 | 0 | 0 0 | 1 1 | none | none", "keep | 0 0 | 0 | -1 -1 | 1 1 | none | 3", "keep", head=SEVEN)

    def test_long_numbers(self):
        # Of 200 figures in a row numbers are read, of 201 they are written alone.
        for top, bottom in ((1, 1), (-1, 1), (1, 7), (7, 1)):
            for figures, read in ((200, True), (201, False)):
                long = 10 ** (figures - 1)
                number = FRACTIONS.number(top * long if bottom == 1 else top, bottom if bottom == 1 else long)
                plant = Plant(FRACTIONS, [(number, ZERO), (ZERO, ONE)], [(ZERO,), (ONE,)])
                for deed in (("begin", (number, ZERO)), ("put", (number,)), ("row", (ZERO, ZERO), (number,), (ZERO, number)),
                             ("plant", plant), ("keep", (ZERO, ZERO), 0, BOX, Bounds([number], [None]))):
                    story = Story(FRACTIONS, 2, 1, (("tick",), deed))
                    text = story_text(story)
                    self.assertIn("0" * (figures - 1), text)
                    if read:
                        self.assertEqual(parse_story(text), story)
                    else:
                        self.check(2, text)

    def test_the_first_wrong_row_is_told(self):
        rows = [HEAD] + [row for _, row in ROWS]
        for place in range(1, len(rows)):
            self.check(place, "\n".join(rows[:place] + ["wrong"] + rows[place:] + ["wrong"]))


class Times(Timed):
    def test_long_stories(self):
        for prime in (None, 97):
            drawer = Drawer(prime, 4, 3, 1)
            deeds = []
            for turn in range(600):
                deeds.append((("plant", drawer.plant()), ("begin", drawer.row(4)), drawer.measured(), ("goal", None, drawer.row(4)),
                              ("rest", 1, True), ("put", drawer.row(3)))[turn % 6])
            story = Story(drawer.field, 4, 3, tuple(deeds))
            self.assertEqual(self.timed(parse_story, self.timed(story_text, story)), story)


if __name__ == "__main__":
    unittest.main()
