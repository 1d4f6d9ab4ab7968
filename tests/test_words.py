"""Names and lines (points 3 and 4)."""

from formroads.errors import InvalidName, InvalidText
from formroads.words import check_name, is_name, read_number, split_words
from tests.samples import Case

NAMES = ["a", "z", "m", "ab", "azazaza", "abcdefgh", "zzzzzzzz", "month"]
NO_NAMES = [
    "", "abcdefghi", "aaaaaaaaaaaaaaaa", "A", "aB", "Ab", "a1", "1", "a b", " a", "a ", "a-b", "a_b", "_", "?", "`",
    "{", "a`", "a{", "a\n", "\n", "\u00e9", "a\u00e9", "\u00df", "\u0430", "\uff41", "a.b", "day:1",
]
NO_NUMBERS = [
    "", "00", "01", "007", "000000", "0123456", "1000000", "9999999", "12345678", "-1", "-0", "+1", " 1", "1 ", "1\n",
    "1_0", "1.0", "a", "1a", "a1", "0x1", "\u00b2", "1\u00b2", "\u0661", "\uff11", "/", ":", "1/", "1:", "?",
]


class NamesTest(Case):
    def test_names(self):
        for text in NAMES:
            self.assertIs(is_name(text), True, text)
            self.assertEqual(check_name(text), text)

    def test_each_letter(self):
        for letter in "abcdefghijklmnopqrstuvwxyz":
            self.assertIs(is_name(letter), True)
            self.assertIs(is_name("a" + letter), True)

    def test_each_other_character(self):
        for number in range(300):
            if not ord("a") <= number <= ord("z"):
                for text in (chr(number), "a" + chr(number), chr(number) + "a"):
                    self.assertIs(is_name(text), False, text)

    def test_no_names(self):
        for text in NO_NAMES:
            self.assertIs(is_name(text), False, text)
            self.raises(InvalidName, check_name, text)

    def test_lengths(self):
        for length in range(20):
            self.assertIs(is_name("q" * length), 1 <= length <= 8)


class NumbersTest(Case):
    def test_numbers(self):
        for number in list(range(1200)) + [9999, 10000, 99999, 100000, 123456, 999999]:
            self.assertEqual(read_number(str(number)), number)

    def test_no_numbers(self):
        for text in NO_NUMBERS:
            self.raises(InvalidText, read_number, text)


class LinesTest(Case):
    def test_words(self):
        for words in (["a"], ["a", "b"], ["nest", "0", "1,2"], ["?"], ["0,2/1", "day,?", "-"], ["~", "!", "a:b"]):
            self.assertEqual(split_words(" ".join(words)), words)

    def test_no_lines(self):
        for line in ("", " ", "  ", " a", "a ", "a  b", "a b  c", "a   b", " a b", "a b ", "  a", "a  "):
            self.raises(InvalidText, split_words, line)

    def test_each_answer_is_new(self):
        self.unchanging(split_words, "nest 0 1,2")
