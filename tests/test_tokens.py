"""Tokens, wrong columns and lines of tokens: [2], [3], [8]."""

import itertools
import re

from helpers import LIMIT, Case
from macroasm.errors import BadLine, TooLarge
from macroasm.lines import line_of, tokens, uncommented

SIGNS = "|| && == != <= >= << >> .. | ^ & < > + - * / ~ ! ( ) { } , : =".split()


def told(line, made=False):
    """The tokens of a line."""
    return list(tokens(line, made=made))


class Sorts(Case):
    def test_names(self):
        self.assertEqual(told("a b.c _9"), [("name", "a", 0), ("name", "b.c", 2), ("name", "_9", 6)])

    def test_local_and_own_names(self):
        self.assertEqual(told(" .x @y"), [("local", ".x", 1), ("own", "@y", 4)])

    def test_numbers(self):
        self.assertEqual(told("7 007 0x1fF 0b101"), [
            ("number", 7, 0), ("number", 7, 2), ("number", 511, 6), ("number", 5, 12),
        ])

    def test_characters(self):
        self.assertEqual([value for _, value, _ in told("'a' ' ' ';' '\"' '\\'' '\\\"' '\\\\' '\\n'")], [
            97, 32, 59, 34, 39, 34, 92, 10,
        ])
        self.assertEqual(told("'a'"), [("character", 97, 0)])

    def test_strings(self):
        self.assertEqual(told('"" "a;b\'" "\\"\\\'\\\\\\n"'), [
            ("string", "", 0), ("string", "a;b'", 3), ("string", "\"'\\\n", 10),
        ])

    def test_each_sign(self):
        for sign in [*SIGNS, "mod"]:
            self.assertEqual(told(f"  {sign} "), [("sign", sign, 2)])

    def test_mod_is_a_name_only_in_longer_ones(self):
        self.assertEqual([pair[:2] for pair in told("mod mod.a a.mod .mod @mod mods")], [
            ("sign", "mod"), ("name", "mod.a"), ("name", "a.mod"), ("local", ".mod"), ("own", "@mod"),
            ("name", "mods"),
        ])

    def test_blanks_and_comments(self):
        self.assertEqual(told(""), [])
        self.assertEqual(told("   "), [])
        self.assertEqual(told(" a;'\"$#"), [("name", "a", 1)])
        self.assertEqual(told(";"), [])

    def test_made_names_in_plain_lines_alone(self):
        self.assertEqual(told("a@1 b.c@20.d@3", True), [("name", "a@1", 0), ("name", "b.c@20.d@3", 4)])
        self.assertEqual(list(tokens("@a")), [("own", "@a", 0)])
        self.refused(BadLine, (1,), told, "a@1")
        self.refused(BadLine, (0,), told, "@a", True)
        self.refused(BadLine, (2,), told, ".a@1", True)


class Reach(Case):
    def test_as_far_as_possible(self):
        self.assertEqual([value for _, value, _ in told("<<=<===!==|||&&&")], [
            "<<", "=", "<=", "==", "!=", "=", "||", "|", "&&", "&",
        ])
        self.assertEqual([value for _, value, _ in told("a.b..c...d....")], [
            "a.b", "..", "c", "..", ".d", "..", "..",
        ])

    def test_two_points_directly_behind(self):
        for front, value in (("a", "a"), (".a", ".a"), ("@a", "@a"), ("7", 7), ("0x1", 1), ("mod", "mod")):
            self.assertEqual([value for _, value, _ in told(front + "..")], [value, ".."])
        self.assertEqual([value for _, value, _ in told("a@1..", True)], ["a@1", ".."])

    def test_one_point_directly_behind(self):
        for front in (".a", "@a", "7", "0x1", "0b1", ".".join("abcdefgh")):
            self.refused(BadLine, (len(front) + 1,), told, front + ".x")
            self.refused(BadLine, (len(front) + 1,), told, front + ".")
        self.refused(BadLine, (4,), told, "mod.")
        self.refused(BadLine, (4,), told, "mod.5")

    def test_barred_signs_directly_behind(self):
        for front in ("7", "0x1", "0b1"):
            for behind in "gG_@":
                self.refused(BadLine, (len(front),), told, front + behind)
        for front in ("a", "mod", ".a", "@a", "a.b"):
            self.refused(BadLine, (len(front),), told, front + "@")
        self.refused(BadLine, (3,), told, "0b12")

    def test_strings_and_characters_bar_nothing(self):
        self.assertEqual([sort for sort, _, _ in told("'a'b\"c\"d'e'.f")], [
            "character", "name", "string", "name", "character", "local",
        ])


class Lengths(Case):
    def test_names(self):
        self.assertEqual(told("a" * 40), [("name", "a" * 40, 0)])
        for front in ("", ".", "@", "b."):
            self.refused(BadLine, (len(front) + 40,), told, front + "a" * 41)

    def test_paths(self):
        path = ".".join("abcdefgh")
        self.assertEqual(told(path), [("name", path, 0)])
        self.refused(BadLine, (16,), told, path + ".i")

    def test_made_names(self):
        self.assertEqual(told("a@123456789", True), [("name", "a@123456789", 0)])
        self.refused(BadLine, (11,), told, "a@1234567890", True)
        self.refused(BadLine, (2,), told, "a@0", True)
        self.refused(BadLine, (2,), told, "a@", True)

    def test_numbers(self):
        for front, value in (("", 1), ("0x", 1), ("0b", 1)):
            self.assertEqual(told(front + "1".zfill(40)), [("number", value, 0)])
            self.refused(BadLine, (len(front) + 40,), told, front + "1".zfill(41))

    def test_greatest_numbers(self):
        self.assertEqual(told(str(LIMIT)), [("number", LIMIT, 0)])
        self.assertEqual(told(hex(LIMIT)), [("number", LIMIT, 0)])
        for text in (str(LIMIT + 1), hex(LIMIT + 1), "0b1" + "0" * 39, "9" * 40):
            if int(text, 0) > LIMIT:
                self.refused(TooLarge, (LIMIT,), told, text)

    def test_what_is_no_token_is_no_number(self):
        large = str(LIMIT + 1)
        self.refused(BadLine, (20,), told, large + "x")
        self.refused(BadLine, (21,), told, large + ".")
        self.refused(TooLarge, (LIMIT,), told, large + " $")
        self.refused(BadLine, (0,), told, "$ " + large)

    def test_lines(self):
        self.assertEqual(told("a" + " " * 399), [("name", "a", 0)])
        self.refused(TooLarge, (400,), told, " " * 401)
        self.refused(TooLarge, (400,), told, "$" * 401)

    def test_no_lines(self):
        for value in (None, 3, True, b"a", ["a"], ("a",), "a\n", "\n" * 500):
            self.refused(BadLine, (0,), told, value)


class WrongColumns(Case):
    def test_lines_that_end_too_early(self):
        for line in ("\"", "\"a", "\"\\", "'", "'a", "'\\", "'\\n", ".", "@", "a.", "0x", "0b", "1.", "a \"; b"):
            self.refused(BadLine, (len(line),), told, line)

    def test_wrong_signs(self):
        for line, column in (
            ("#", 0), ("a $", 2), ("''", 1), ("'ab'", 2), ("'\\a'", 2), ("\"\\a\"", 2), (".9", 1), ("@9", 1),
            ("a.9", 2), ("0xg", 2), ("0b2", 2), ("a . b", 3), ("a ? b", 2), ("[", 0), ("\\", 0), ("`", 0), ("0X1", 1),
        ):
            self.refused(BadLine, (column,), told, line)

    def test_all_short_lines(self):
        """Against another description of the tokens, and what may still come behind."""
        for many in range(5):
            for signs in itertools.product("a0x.@'\"\\ ;1", repeat=many):
                for made in (False, True):
                    self.check_line("".join(signs), made)

    def check_line(self, line, made):
        wanted = wrong_column(line, made)
        try:
            told(line, made)
            column = None
        except BadLine as error:
            column = error.column
        self.assertEqual(column, wanted, (line, made))


NAME = r"(?:[A-Za-z_][A-Za-z0-9_]{0,39})"
MADE = rf"(?:{NAME}(?:@[1-9][0-9]{{0,8}})?)"
SIGN = "|".join(re.escape(sign) for sign in SIGNS)
QUOTED = r"'(?:[^'\\]|\\[\"'\\n])'|" + r'"(?:[^"\\]|\\["\'\\n])*"'
BEHIND = r"(?![A-Za-z0-9_@]|\.(?!\.))"


def pattern_of(made):
    """An expression for whole lines of tokens."""
    name = MADE if made else NAME
    own = "" if made else f"|@{NAME}"
    words = rf"(?:{name}(?:\.{name}){{0,7}}|\.{NAME}{own}|0x[0-9a-fA-F]{{1,40}}|0b[01]{{1,40}}|[0-9]{{1,40}}){BEHIND}"
    return re.compile(rf"(?: |{words}|{QUOTED}|{SIGN})*(?:;.*)?")


PATTERNS = {made: pattern_of(made) for made in (False, True)}
ENDINGS = ("", "\"", "'", "a'", "n'", "n\"", ".", "a", "1")


def wrong_column(line, made):
    """The first column up to which no line of tokens goes, None for a line of tokens."""
    pattern = PATTERNS[made]
    if pattern.fullmatch(line):
        return None
    for column in range(len(line)):
        if not any(pattern.fullmatch(line[:column + 1] + ending) for ending in ENDINGS):
            return column
    return len(line)


class Generating(Case):
    def test_tokens_in_front_come_first(self):
        for line, front, error in (
            ("a 'b' $", [("name", "a", 0), ("character", 98, 2)], BadLine),
            ("a b.5", [("name", "a", 0)], BadLine),
            ("b#", [("name", "b", 0)], BadLine),
            ("a " + "9" * 40, [("name", "a", 0)], TooLarge),
        ):
            found = tokens(line)
            self.assertEqual([next(found) for _ in front], front)
            with self.assertRaises(error):
                next(found)

    def test_nothing_is_raised_before_an_item_is_requested(self):
        for value in (None, "$", " " * 401):
            found = tokens(value)
            with self.assertRaises((BadLine, TooLarge)):
                next(found)


class Writing(Case):
    def test_one_blank_between(self):
        self.assertEqual(line_of((("name", "a.b"), ("sign", "mod"), ("number", 31), ("local", ".c"))), "a.b mod 31 .c")
        self.assertEqual(line_of(()), "")

    def test_no_needless_escapes(self):
        self.assertEqual(line_of((("string", "a'b\"c\\d\ne;"),)), '"a\'b\\"c\\\\d\\ne;"')
        self.assertEqual([line_of((("character", code),)) for code in (34, 39, 92, 10, 32, 126, 97, 36, 38)], [
            "'\"'", "'\\''", "'\\\\'", "'\\n'", "' '", "'~'", "'a'", "'$'", "'&'",
        ])

    def test_each_character_is_read_again(self):
        for code in [10, *range(32, 37), *range(38, 127)]:
            for pair in (("character", code), ("string", chr(code) * 2)):
                self.assertEqual([token[:2] for token in tokens(line_of((pair,)))], [pair])

    def test_what_is_written_is_read_as_the_same_tokens(self):
        for line, made in (
            ("x:op @y,.z,'a',\"b;\\n\" ;c", False), ("a..b....c", False), ("-1- -0x10--a<< =<=", False),
            ("a@1:b@2.c..mod 5", True), ("{(a)}~!b", True),
        ):
            pairs = tuple(token[:2] for token in tokens(line, made=made))
            self.assertEqual(tuple(token[:2] for token in tokens(line_of(pairs), made=made)), pairs)


class Uncommented(Case):
    def test_comments_and_blanks(self):
        for line, wanted in (
            ("", ""), ("  a b ", "a b"), (" a ; b", "a"), (";a", ""),
            ("a \";\" ';' \"\\\";\" ;", "a \";\" ';' \"\\\";\""),
            (" # $x [ 9a ) ; '", "# $x [ 9a )"), ("' '", "' '"),
        ):
            self.assertEqual(uncommented(line), wanted)

    def test_quotes_are_looked_at(self):
        for line, column in (("a 'bc'", 4), (" \"b", 3), ("''", 1), ("\"\\x\"", 2), ("a '", 3), ("it's", 4)):
            self.refused(BadLine, (column,), uncommented, line)

    def test_no_lines(self):
        for value in (None, True, 7, ["a"], "a\n"):
            self.refused(BadLine, (0,), uncommented, value)
        self.refused(TooLarge, (400,), uncommented, "\"" * 401)
        self.assertEqual(uncommented("a" * 400), "a" * 400)
