import itertools
import random
import re
import unittest

from sealround.errors import TextError
from sealround.papers import Paper
from sealround.written import paper_of, written

GREAT = 2 ** 70
NUMBER = "(?:0|[1-9][0-9]{0,3999})"
FIRST_LINE = re.compile(f"first(?: {NUMBER})*")
PLAIN_LINE = re.compile(f"(?:cite|back) {NUMBER} row(?: {NUMBER})*")
ENTRY_LINE = re.compile(f"entry {NUMBER} ({NUMBER})((?: {NUMBER})*) row(?: {NUMBER})*")

PAPER = Paper(
    (1, 30, 40),
    [
        ((2, 2, 8, 9, 0), ("cite", 1)),
        ((4, 9, 0, 5, 3, 77), ("entry", 1, (20, 10))),
        ((4, 9, 1, 6, 1, 7, 33), ("back", 0)),
        ((4, 8, 0, 6, 1, 7), ("entry", 0, ())),
        ((2, 0), ("cite", 12)),
    ],
)
LINES = [
    "first 1 30 40",
    "cite 1 row 2 2 8 9 0",
    "entry 1 2 20 10 row 4 9 0 5 3 77",
    "back 0 row 4 9 1 6 1 7 33",
    "entry 0 0 row 4 8 0 6 1 7",
    "cite 12 row 2 0",
]


def plain_written(paper):
    """The written form, line by line."""
    text = "first" + "".join(f" {number}" for number in paper.first)
    for row, (word, index, *way) in paper.steps:
        text += f"\n{word} {index}"
        for numbers in way:
            text += f" {len(numbers)}" + "".join(f" {number}" for number in numbers)
        text += " row" + "".join(f" {number}" for number in row)
    return text


def is_line(number, line):
    """Whether the line with this number, from 1, is of its form."""
    if number == 1:
        return FIRST_LINE.fullmatch(line) is not None
    entry = ENTRY_LINE.fullmatch(line)
    if entry:
        return int(entry[1]) == len(entry[2].split())
    return PLAIN_LINE.fullmatch(line) is not None


class WrittenCase(unittest.TestCase):
    def same(self, one, two):
        self.assertEqual((one.first, one.steps), (two.first, two.steps))

    def read_again(self, paper, text):
        """The text is the written form of the paper, and is read as the same paper."""
        self.assertEqual(written(paper), text)
        self.same(paper_of(text), paper)

    def refused(self, line, text):
        with self.assertRaises(TextError) as caught:
            paper_of(text)
        error = caught.exception
        self.assertEqual((error.line, error.reason), (line, "not a paper"), text[:200])


class WrittenTest(WrittenCase):
    def test_line_by_line(self):
        self.assertEqual(written(PAPER).split("\n"), LINES)
        self.read_again(PAPER, "\n".join(LINES))

    def test_each_line_alone(self):
        self.read_again(Paper((1, 30, 40), []), "first 1 30 40")
        self.read_again(Paper((0,), []), "first 0")
        for step, line in zip(PAPER.steps, LINES[1:], strict=True):
            self.read_again(Paper((5, 9), [step]), "first 5 9\n" + line)

    def test_a_document_without_cites(self):
        self.read_again(Paper((2, 0), []), "first 2 0")
        self.read_again(Paper((2, 0), [((2, 0), ("cite", 0))]), "first 2 0\ncite 0 row 2 0")

    def test_ways_of_each_length(self):
        for length in range(30):
            way = tuple(range(100, 100 + length))
            numbers = "".join(f" {number}" for number in way)
            text = f"first 7\nentry 3 {length}{numbers} row 4 5"
            self.read_again(Paper((7,), [((4, 5), ("entry", 3, way))]), text)

    def test_numbers_of_any_size_at_each_place(self):
        for number in (0, 1, 9, 10, 10 ** 63, 10 ** 64 - 1, 10 ** 64, 10 ** 64 + 1, 10 ** 128,
                       7 * 10 ** 200, GREAT, 2 ** 1000, 10 ** 3999, 10 ** 4000 - 1):
            self.read_again(Paper((number,), []), f"first {number}")
            self.read_again(Paper((1, number, 2), []), f"first 1 {number} 2")
            for word in ("cite", "back"):
                paper = Paper((7,), [((3, number), (word, number))])
                self.read_again(paper, f"first 7\n{word} {number} row 3 {number}")
            paper = Paper((7,), [((number,), ("entry", number, (number, 5)))])
            self.read_again(paper, f"first 7\nentry {number} 2 {number} 5 row {number}")

    def test_numbers_beyond_what_python_writes_at_once(self):
        for digits in (4001, 4299, 4300, 4301, 5000, 20000):
            self.assertEqual(written(Paper((10 ** digits - 1,), [])), "first " + "9" * digits)
            self.assertEqual(written(Paper((10 ** digits,), [])), "first 1" + "0" * digits)
            shown = "first 7\ncite 4" + "0" * digits + " row 2 0"
            self.assertEqual(written(Paper((7,), [((2, 0), ("cite", 4 * 10 ** digits))])), shown)
        # One third, digit by digit: no piece of it is misplaced.
        self.assertEqual(written(Paper((10 ** 9000 // 3,), [])), "first " + "3" * 9000)
        self.assertEqual(written(Paper((10 ** 9000 // 81,), []))[6:24], "123456790123456790")

    def test_papers_by_chance(self):
        chance = random.Random(1)

        def numbers():
            sizes = (1, 3, 64, 200, 250, 3000)
            return tuple(chance.getrandbits(chance.choice(sizes))
                         for _ in range(chance.randrange(6)))

        for _ in range(300):
            steps = []
            for _ in range(chance.randrange(6)):
                index = chance.getrandbits(chance.choice((1, 3, 80)))
                places = (("cite", index), ("back", index), ("entry", index, numbers()))
                steps.append((numbers(), chance.choice(places)))
            paper = Paper(numbers(), steps)
            self.read_again(paper, plain_written(paper))

    def test_the_paper_stays_as_it_was(self):
        steps = list(PAPER.steps)
        written(PAPER)
        self.assertEqual((PAPER.first, PAPER.steps), ((1, 30, 40), steps))

    def test_kinds_of_values(self):
        self.assertIs(type(written(PAPER)), str)
        paper = paper_of("\n".join(LINES))
        self.assertIs(type(paper), Paper)
        self.assertIs(type(paper.first), tuple)
        self.assertIs(type(paper.steps), list)
        for step in paper.steps:
            row, place = step
            self.assertEqual([type(step), type(row), type(place)], [tuple] * 3)
        self.assertIs(type(paper.steps[1][1][2]), tuple)


class EmptyRowsTest(WrittenCase):
    PLACES = {
        "cite 0": ("cite", 0),
        "back 3": ("back", 3),
        "entry 0 0": ("entry", 0, ()),
        "entry 1 2 5 6": ("entry", 1, (5, 6)),
    }

    def test_the_first_row(self):
        self.read_again(Paper((), []), "first")
        for line, place in self.PLACES.items():
            self.read_again(Paper((), [((2, 1, 7), place)]), f"first\n{line} row 2 1 7")

    def test_the_row_of_a_step(self):
        for line, place in self.PLACES.items():
            self.read_again(Paper((2, 0), [((), place)]), f"first 2 0\n{line} row")
            self.read_again(Paper((), [((), place)]), f"first\n{line} row")
            paper = Paper((), [((), place), ((0,), ("cite", 9)), ((), place)])
            self.read_again(paper, f"first\n{line} row\ncite 9 row 0\n{line} row")

    def test_an_empty_row_is_a_tuple(self):
        paper = paper_of("first\ncite 0 row")
        self.assertEqual([type(paper.first), type(paper.steps[0][0])], [tuple] * 2)

    def test_a_space_without_a_number_behind_it(self):
        self.refused(1, "first ")
        self.refused(1, "first  ")
        for line in self.PLACES:
            self.refused(2, f"first\n{line} row ")
            self.refused(2, f"first\n{line}  row")
            self.refused(1, f"first \n{line} row")

    def test_the_line_behind_an_empty_row_counts(self):
        self.refused(2, "first\n 2 0")
        self.refused(2, "first\n1")
        self.refused(2, "first\n")
        self.refused(3, "first\ncite 0 row\n2 0")
        self.refused(3, "first 2 0\ncite 0 row\n")


class PaperOfTest(WrittenCase):
    def test_rows_that_are_no_things_are_read(self):
        self.same(paper_of("first 3 1 2"), Paper((3, 1, 2), []))
        self.same(paper_of("first 0"), Paper((0,), []))
        self.same(paper_of("first 2 5"), Paper((2, 5), []))
        text = "first 9\nback 3 row 1\nentry 7 1 5 row 3 8 8 8"
        expected = Paper((9,), [((1,), ("back", 3)), ((3, 8, 8, 8), ("entry", 7, (5,)))])
        self.same(paper_of(text), expected)

    def test_texts_of_one_line(self):
        for text in ("", " ", "row", " first", "first  1", "first 1 ", " first 1",
                     "first 1  2", "first 01", "first 00", "first 1 02", "first -1", "first +1",
                     "first 1.0", "first 1_0", "first 0x1", "first 1e3", "first one", "first1",
                     "First 1", "FIRST 1", "firs 1", "firsts 1", "last 1", "1 2 3", "row 1 2 3",
                     "first row 1", "first 1 row 2", "first first 1", "first 1,2", "first 1, 2",
                     "cite 0 row 2 0", "back 0 row 2 0", "entry 0 0 row 2 0", "0", "first a",
                     "first 1 ~", "first 1 !", "first (1)", "\"first 1\"", "first '1'"):
            with self.subTest(text=text):
                self.refused(1, text)

    def test_steps(self):
        for line in ("", " ", "cite", "cite 0", "cite 0 ", "cite row", "cite 0 row ",
                     "cite row 2 0", "cite 0 2 0", "cite 0 0 row 2 0", "cite 0 1 row 2 0",
                     "cite  0 row 2 0", "cite 0  row 2 0", "cite 0 row  2 0", "cite 0 row 2  0",
                     "cite 0 row 2 0 ", " cite 0 row 2 0", "cite 00 row 2 0", "cite 01 row 2 0",
                     "cite 0 row 02 0", "cite 0 row 2 00", "cite 0 row 2 0 row", "cite 0 row row 2 0",
                     "cite 0 row 2 row 0", "cite 0 row 2 0 cite 0 row 2 0", "cite a row 2 0",
                     "cite -1 row 2 0", "cite 0 row 2 -0", "cite 0 row 2 x", "cite 0 ROW 2 0",
                     "Cite 0 row 2 0", "cites 0 row 2 0", "quote 0 row 2 0", "0 row 2 0", "row 2 0",
                     "row", "row row 2 0", " row 2 0", "2 0", "0 0 row 2 0", "first 2 0", "first 1",
                     "first 0 row 2 0", "back", "back 0", "back 0 ro", "back row 4", "back 0 4",
                     "back 0 1 row 4", "back 0 0 row 4", "back 00 row 4", "back 0 row 4 ",
                     "entry", "entry 0", "entry 0 0", "entry 0 row", "entry 0 row 4", "entry row 4",
                     "entry 0 0 0 row 4", "entry 0 1 row 4", "entry 0 1 5 6 row 4",
                     "entry 0 2 5 row 4", "entry 0 2 5 6 7 row 4", "entry 0 3 5 6 row 4",
                     "entry 0 2 5 6 4", "entry 0 2 5 row", "entry 0 02 5 6 row 4",
                     "entry 00 2 5 6 row 4", "entry 0 2 05 6 row 4", "entry 0 2 5 06 row 4",
                     "entry 0 2  5 6 row 4", "entry 0 2 5  6 row 4", "entry 0 2 5 6  row 4",
                     "entry 0 0  row 4", "entry 0  0 row 4", "entry 0 1 row row 4",
                     "entry 0 2 5 row 6 row 4", "entry 0 2 5 6 row 4 ", "entry x 0 row 4",
                     "entry 0 x row 4", "entry 0 1 x row 4", "entry 0 1 5 row x",
                     f"entry 0 {GREAT} 5 row 4", f"entry 0 {10 ** 3999} 5 row 4", "entries 0 0 row 4"):
            for text in ("first 1\n" + line, "first 1\n" + line + "\n" + line):
                with self.subTest(text=text):
                    self.refused(2, text)

    def test_other_characters_are_no_digits(self):
        for character in ("\u0661", "\u00b2", "\uff11", "\t", "\r", "\u00a0", "\x00"):
            self.refused(1, f"first {character}")
            self.refused(1, f"first 1{character}")
            self.refused(2, f"first 1\ncite {character} row 2 0")
            self.refused(2, f"first 1\ncite 0 row 2 0{character}")

    def test_line_feeds(self):
        self.refused(1, "\n")
        self.refused(1, "\nfirst 1")
        self.refused(2, "first 1\n")
        self.refused(2, "first 1\n\n")
        self.refused(2, "first 1\n\ncite 0 row 2 0")
        self.refused(3, "first 1\ncite 0 row 2 0\n")
        self.refused(3, "first 1\ncite 0 row 2 0\n\nback 0 row 4")
        self.refused(7, "\n".join(LINES) + "\n")
        self.refused(2, "first 1\ncite 0\nrow 2 0")

    def test_numbers_of_4000_and_4001_digits(self):
        for digit in "19":
            fits, long = digit * 4000, digit * 4001
            number = int(fits)
            texts = {
                "first {}": Paper((number,), []),
                "first 2 0 {} 1": Paper((2, 0, number, 1), []),
            }
            steps = {
                "cite {} row 2 0": ((2, 0), ("cite", number)),
                "cite 1 row 2 {}": ((2, number), ("cite", 1)),
                "back {} row 2 0": ((2, 0), ("back", number)),
                "entry {} 0 row 2 0": ((2, 0), ("entry", number, ())),
                "entry 0 2 {} 5 row 2 0": ((2, 0), ("entry", 0, (number, 5))),
                "entry 0 0 row {} 5": ((number, 5), ("entry", 0, ())),
            }
            for form, paper in texts.items():
                self.read_again(paper, form.format(fits))
                self.refused(1, form.format(long))
            for form, step in steps.items():
                self.read_again(Paper((1,), [step]), "first 1\n" + form.format(fits))
                self.refused(2, "first 1\n" + form.format(long))
        self.refused(1, "first 1" + "0" * 4000)
        self.refused(1, "first 0" + "1" * 3999)
        self.refused(1, "first 0" + "1" * 4000)
        self.refused(1, "first " + "1" * 100000)
        self.refused(2, "first 1\nentry 0 " + "1" * 4000 + " row 2 0")

    def test_the_first_wrong_line_counts(self):
        wrong = ["first 01", "cite 1 row ", "entry 1 3 20 10 row 4", "back row 4", "entry 0 row 4", ""]
        for low, high in itertools.combinations_with_replacement(range(6), 2):
            lines = list(LINES)
            lines[low], lines[high] = wrong[low], wrong[high]
            self.refused(low + 1, "\n".join(lines))
        self.refused(1, "\n".join(wrong))

    def test_lines_in_another_order(self):
        for order in itertools.permutations(range(3)):
            lines = [LINES[at] for at in order]
            if order[0] == 0:
                self.assertEqual(written(paper_of("\n".join(lines))), "\n".join(lines))
            else:
                self.refused(1, "\n".join(lines))
        self.refused(3, "\n".join([LINES[0], LINES[1], LINES[0]]))

    def check_text(self, text):
        """Compares with the form of the lines; returns the number of the line that is refused."""
        lines = text.split("\n")
        wrong = [number for number, line in enumerate(lines, start=1) if not is_line(number, line)]
        if wrong:
            self.refused(wrong[0], text)
            return wrong[0]
        self.assertEqual(written(paper_of(text)), text)
        return 0

    def test_all_lines_of_a_few_parts(self):
        parts = ("first", "cite", "entry", "row", "0", "1", "2", "01", "")
        accepted = 0
        for many in range(1, 6):
            for line in itertools.product(parts, repeat=many):
                self.check_text(" ".join(line))
                if line[0] != "first":
                    accepted += not self.check_text("first 5\n" + " ".join(line))
        for rest in itertools.product(("row", "0", "1", "2", "3"), repeat=5):
            accepted += not self.check_text("first 5\nentry 1 " + " ".join(rest))
        self.assertGreater(accepted, 100)

    def test_texts_with_a_few_changed_characters(self):
        chance = random.Random(2)
        text = "\n".join(LINES)
        characters = "0123 \n\nfirstceobackny~-+.,"
        met = set()
        for _ in range(20000):
            shown = text
            for _ in range(chance.choice((1, 1, 2, 3))):
                at = chance.randrange(len(shown) + 1)
                gone = chance.randrange(3)
                shown = shown[:at] + chance.choice(["", *characters]) + shown[at + gone:]
            met.add(self.check_text(shown))
        self.assertEqual(met, set(range(8)))

    def test_every_character_at_every_place_of_a_short_text(self):
        text = "first 7\nentry 1 1 9 row 4 0"
        characters = [chr(code) for code in range(32, 127) if code != 37] + ["\n"]
        for at, character in itertools.product(range(len(text) + 1), characters):
            self.check_text(text[:at] + character + text[at:])
            self.check_text(text[:at] + character + text[at + 1:])


if __name__ == "__main__":
    unittest.main()
