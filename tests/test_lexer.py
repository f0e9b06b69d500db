"""DOC.md [6], and the heading allendless/lexer.py."""

import unittest

from allendless.errors import BadText, TooGreat
from allendless.lexer import tokens_of
from tests.wrong import position_of

LANGUAGE = """fn row some every least greatest find share contest if then else first second as count repeat num few rows
of by times""".split()


def plain(text):
    return [token for _, token, _ in tokens_of(text)][:-1]


class LexerTest(unittest.TestCase):
    def test_sorts(self):
        self.assertEqual(tokens_of("fn x1_: 12"), (
            ("word", "fn", (1, 1)), ("word", "x1_", (1, 4)), ("sign", ":", (1, 7)), ("number", 12, (1, 9)),
            ("end", "", (1, 11))))

    def test_words(self):
        for word in LANGUAGE:
            self.assertEqual(tokens_of(word)[0], ("word", word, (1, 1)))
        self.assertEqual(plain("fnx a_b9c z" + "a" * 30), ["fnx", "a_b9c", "z" + "a" * 30])

    def test_words_and_numbers_side_by_side(self):
        self.assertEqual(plain("12ab3 4"), [12, "ab3", 4])
        self.assertEqual(plain("a(b)c"), ["a", "(", "b", ")", "c"])

    def test_signs(self):
        for sign in "( ) [ ] , . : & < = + - * / | ->".split():
            self.assertEqual(tokens_of(sign), (("sign", sign, (1, 1)), ("end", "", (1, 1 + len(sign)))))
        self.assertEqual(plain("()[],.:&<=+-*/|"), list("()[],.:&<=+-*/|"))

    def test_to_is_read_where_it_can_be(self):
        self.assertEqual(plain("a->b"), ["a", "->", "b"])
        self.assertEqual(plain("--> -"), ["-", "->", "-"])
        self.assertEqual(position_of(tokens_of, "a - > b"), (1, 5))
        self.assertEqual(position_of(tokens_of, "a > b"), (1, 3))
        self.assertEqual(position_of(tokens_of, "->>"), (1, 3))
        self.assertEqual(position_of(tokens_of, "-\n>"), (2, 1))

    def test_numbers(self):
        self.assertEqual(plain("0 10 " + "9" * 18), [0, 10, 10 ** 18 - 1])
        self.assertEqual(position_of(tokens_of, "1 " + "1" * 19), (1, 3))
        self.assertEqual(position_of(tokens_of, "x 00"), (1, 3))
        self.assertEqual(position_of(tokens_of, "x  01"), (1, 4))
        self.assertEqual(position_of(tokens_of, "0" * 18), (1, 1))
        self.assertEqual(plain("0:1"), [0, ":", 1])

    def test_positions_over_rows(self):
        self.assertEqual(tokens_of("a\n  b # c d\n\ne"), (
            ("word", "a", (1, 1)), ("word", "b", (2, 3)), ("word", "e", (4, 1)), ("end", "", (4, 2))))

    def test_the_position_behind_the_text(self):
        for text, position in (("", (1, 1)), (" ", (1, 2)), ("\n", (2, 1)), ("a\n", (2, 1)), ("a\n\n  ", (3, 3)),
                               ("a # b", (1, 6)), ("a # b\n", (2, 1)), ("#", (1, 2))):
            self.assertEqual(tokens_of(text)[-1], ("end", "", position), text)

    def test_remarks(self):
        self.assertEqual(plain("a # b ! 00 A > # c\nd#"), ["a", "d"])
        every = "".join(chr(number) for number in range(32, 127))
        self.assertEqual(tokens_of("#" + every + "\nb")[0], ("word", "b", (2, 1)))
        self.assertEqual(tokens_of("#" + every)[0], ("end", "", (1, 97)))

    def test_characters_that_begin_no_token(self):
        for sign in "ABZ_!\"$%';>?@\\^`{}~":
            self.assertEqual(position_of(tokens_of, "a\n " + sign), (2, 2), sign)
        for sign in "\t\r\x00\x7f\x0b\u00e9\u0661\u2003":
            self.assertEqual(position_of(tokens_of, "a " + sign + " b"), (1, 3))
            self.assertEqual(position_of(tokens_of, "a # b" + sign), (1, 6))
            self.assertEqual(position_of(tokens_of, "a#\nb#  " + sign + "\n"), (2, 5))
        self.assertEqual(position_of(tokens_of, "aB"), (1, 2))
        self.assertEqual(position_of(tokens_of, "1_0"), (1, 2))
        self.assertEqual(position_of(tokens_of, "a\u00e9"), (1, 2))
        self.assertEqual(position_of(tokens_of, "1\u0661"), (1, 2))

    def test_the_first_one_counts(self):
        self.assertEqual(position_of(tokens_of, "a ! \n ?"), (1, 3))
        self.assertEqual(position_of(tokens_of, "00 !"), (1, 1))

    def test_long_texts(self):
        self.assertEqual(len(tokens_of("a " * 10000)), 10001)
        self.assertEqual(tokens_of("#" * 20000), (("end", "", (1, 20001)),))
        self.assertEqual(position_of(tokens_of, "!" * 20000), (1, 1))
        for text in ("a " * 10000 + "a", "!" * 20001, " " * 20001):
            with self.assertRaises(TooGreat) as caught:
                tokens_of(text)
            self.assertEqual(caught.exception.what, "text")

    def test_bad_text(self):
        with self.assertRaises(BadText):
            tokens_of("?")


if __name__ == "__main__":
    unittest.main()
