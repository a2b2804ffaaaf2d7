"""How a text is written between two quotes: [19], as far as [6] uses it."""

import unittest

from thingwires.quotes import quoted, unquoted


class TestQuotes(unittest.TestCase):
    def test_written_and_read(self):
        for text, word in [("", '""'), ("a b", '"a b"'), ('"', '"\\""'), ("\\", '"\\\\"'), ('\\"', '"\\\\\\""'),
                           ('""', '"\\"\\""'), ("\\\\", '"\\\\\\\\"'), ("a\\b\"c", '"a\\\\b\\"c"'), ("'", '"\'"')]:
            self.assertEqual(quoted(text), word)
            self.assertEqual(unquoted(word), text)

    def test_no_quotes_around(self):
        for word in ["", '"', "a", "ab", '"a', 'a"', "'a'", "yes", "-"]:
            self.assertIsNone(unquoted(word))

    def test_what_is_written_otherwise_is_not_what_quoted_tells(self):
        for word in ['"a"b"', '"\\a"', '"\\"', '"""', '"\\\\\\"']:
            self.assertNotEqual(quoted(unquoted(word)), word)


if __name__ == "__main__":
    unittest.main()
