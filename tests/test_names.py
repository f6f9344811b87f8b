"""Names, paths and reserved words: [1]."""

import unittest

from macroasm.lines import is_name, is_reserved, is_used

RESERVED = (
    "mod macro endmacro repeat endrepeat if ifsame else endif set section byte word long text space align scope "
    "endscope export import"
).split()
NO_STRINGS = (None, True, False, 0, 1, b"a", ("a",), ["a"], {"a": 1}, [], {}, object())


class Names(unittest.TestCase):
    def test_names(self):
        for name in ("a", "_", "A9", "a_b", "__", "mod", "a" * 40, "_" + "9" * 39):
            self.assertIs(is_name(name), True, name)

    def test_no_names(self):
        for name in ("", "9", "9a", "a b", " a", "a ", "a.b", ".a", "@a", "a@1", "a-b", "a\n", "a" * 41, "a:", "\u00e9", "a\u0661"):
            self.assertIs(is_name(name), False, name)

    def test_no_strings(self):
        for value in NO_STRINGS:
            for asked in (is_name, is_reserved, is_used):
                self.assertIs(asked(value), False, value)


class Reserved(unittest.TestCase):
    def test_each_word(self):
        for word in RESERVED:
            self.assertIs(is_reserved(word), True, word)

    def test_other_words(self):
        for word in ("", "Mod", "mods", "end", "jump", "mod ", ".mod", "endset", "elseif", "modmacro"):
            self.assertIs(is_reserved(word), False, word)


class Used(unittest.TestCase):
    def test_paths_and_local_names(self):
        for path in ("a", "a.b", ".a", "mod", "if", "a.mod", ".mod", ".".join("abcdefgh")):
            self.assertIs(is_used(path), True, path)

    def test_made_names(self):
        for path in ("a@1", "a@123456789", "a@1.b", "a.b@9.c@10", "a" * 40 + "@1"):
            self.assertIs(is_used(path), True, path)

    def test_paths_that_are_longer_than_a_line(self):
        longest = ".".join(["a" * 40 + "@123456789"] * 8)
        self.assertGreater(len(longest), 400)
        self.assertIs(is_used(longest), True)

    def test_what_is_not_used(self):
        wrong = (
            "", ".", "a.", "a..b", ".a.b", "..a", "@a", "a@", "a@0", "a@01", "a@1234567890", "a@1@2", ".a@1", "a@b",
            ".".join("abcdefghi"), "a" * 41, "." + "a" * 41, "a." + "b" * 41, "a b", "9", "a.9", "a@1x", "@1", "a\n",
        )
        for path in wrong:
            self.assertIs(is_used(path), False, path)
