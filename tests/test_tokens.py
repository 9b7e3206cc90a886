import unittest

from weather.errors import NoText
from weather.tokens import Tokens, split_row


class Split(unittest.TestCase):
    def test_longest_runs_and_signs(self):
        for text, tokens in (
            ("", []),
            ("    ", []),
            ("here", ["here"]),
            ("  back   3 ", ["back", "3"]),
            ("back3", ["back3"]),
            ("1/2*here<-3", ["1/2", "*", "here", "<", "-", "3"]),
            ("1 / 2", ["1", "/", "2"]),
            ("abs((a))", ["abs", "(", "(", "a", ")", ")"]),
            ("mark x:not[a=b]", ["mark", "x", ":", "not", "[", "a", "=", "b", "]"]),
            ("<==", ["<", "=", "="]),
            ("aB\tc\n%", ["a", "B", "\t", "c", "\n", "%"]),
        ):
            self.assertEqual(split_row(text), tokens)


class Taken(unittest.TestCase):
    def test_one_behind_the_other(self):
        tokens = Tokens("back 3")
        self.assertEqual((tokens.ahead(), tokens.ahead(1), tokens.ahead(2)), ("back", "3", ""))
        self.assertEqual((tokens.take(), tokens.take(), tokens.ahead()), ("back", "3", ""))
        tokens.expect_end()
        with self.assertRaises(NoText) as caught:
            tokens.take()
        self.assertEqual(caught.exception.row, 1)

    def test_another_token_than_expected(self):
        for expect in (lambda: Tokens("a").expect("b"), lambda: Tokens("").expect("b"), Tokens("a").expect_end):
            with self.assertRaises(NoText) as caught:
                expect()
            self.assertEqual(caught.exception.row, 1)


if __name__ == "__main__":
    unittest.main()
