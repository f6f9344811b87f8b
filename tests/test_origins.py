"""Origins: [9]."""

from helpers import Case
from macroasm.errors import BadName, BadNumber, BadText, TooLarge
from macroasm.origins import Origin

NO_PAIRS = (None, 3, True, "a", "ab", ["a", 1], ("a",), ("a", 1, 2), ())
NO_TEXT_NAMES = ("", "a" * 21, "9", "a.b", "a b", 3, None, True, ("a",), ["a"])
NO_LINES = (0, -1, 100001, "1", None, True, False, (1,), [1])


class Making(Case):
    def test_all_ways_give_equal_origins(self):
        one = Origin(("a", 1), ("b", 20))
        for other in (Origin.of((("a", 1), ("b", 20))), Origin.read("a:1<b:20"), Origin(("a", 1)).within("b", 20)):
            self.assertEqual(one, other)
            self.assertEqual(str(other), "a:1<b:20")

    def test_edges(self):
        self.assertEqual(str(Origin(("a" * 20, 100000))), "a" * 20 + ":100000")
        self.assertEqual(str(Origin(("if", 1))), "if:1")

    def test_no_pairs_at_all(self):
        self.refused(BadName, ((),), Origin)
        self.refused(BadName, ((),), Origin.of, ())

    def test_of_wants_a_tuple(self):
        for value in (None, [("a", 1)], "a:1", 3, {}, True):
            self.refused(BadName, (value,), Origin.of, value)

    def test_what_is_no_pair(self):
        for value in NO_PAIRS:
            self.refused(BadName, (value,), Origin, ("a", 1), value)
            self.refused(BadName, (value,), Origin.of, (value,))

    def test_what_is_no_text_name(self):
        for value in NO_TEXT_NAMES:
            self.refused(BadName, (value,), Origin, (value, 0))
            self.refused(BadName, (value,), Origin(("a", 1)).within, value, 0)

    def test_what_is_no_line(self):
        for value in NO_LINES:
            self.refused(BadNumber, (value,), Origin, ("a", value))
            self.refused(BadNumber, (value,), Origin(("a", 1)).within, "b", value)

    def test_the_first_wrong_pair_counts(self):
        self.refused(BadNumber, (0,), Origin, ("a", 0), ("9", 1))
        self.refused(BadName, ("9",), Origin, ("a", 1), ("9", 1), None)

    def test_200_pairs_and_201(self):
        pairs = (("a", 1),) * 200
        self.assertEqual(len(Origin(*pairs)), 200)
        self.assertEqual(len(Origin.of(pairs[1:]).within("b", 2)), 200)
        self.refused(TooLarge, (200,), Origin, *pairs, ("a", 1))
        self.refused(TooLarge, (200,), Origin.of, (None,) * 201)
        self.refused(TooLarge, (200,), Origin(*pairs).within, 9, 0)


class Reading(Case):
    def test_texts(self):
        for text in ("a:1", "a:100000", "a:1<a:1<b_9:77", "<".join(["a:1"] * 200)):
            self.assertEqual(str(Origin.read(text)), text)

    def test_wrong_pairs(self):
        for pair in (
            "", "a", ":1", "a:", "a:0", "a:01", "a:100001", "a:1000000", "9:1", "a:1:2", " a:1", "a :1", "a: 1", "a:1 ",
            "a:+1", "a:-1", "a:x", "a" * 21 + ":1", "a.b:1", "a:1\n", "a:" + "9" * 5000, "a@1:1",
        ):
            self.refused(BadText, (0, 0), Origin.read, pair)
            self.refused(BadText, (0, 2), Origin.read, "a:1<b:2<" + pair + "<c:0")

    def test_the_pair_too_many(self):
        many = "<".join(["a:1"] * 200)
        self.refused(BadText, (0, 200), Origin.read, many + "<a:1")
        self.refused(BadText, (0, 200), Origin.read, many + "<")
        self.refused(BadText, (0, 3), Origin.read, "a:1<a:1<a:1<a:0<" + many)

    def test_no_texts(self):
        for value in (None, 1, True, b"a:1", ("a:1",), ["a:1"]):
            self.refused(BadText, (0, 0), Origin.read, value)


class Asking(Case):
    def test_indexes(self):
        origin = Origin(("a", 1), ("b", 2), ("c", 3))
        self.assertEqual([origin[at] for at in range(3)], [("a", 1), ("b", 2), ("c", 3)])
        self.assertEqual(len(origin), 3)

    def test_no_indexes(self):
        origin = Origin(("a", 1), ("b", 2))
        for value in (2, -1, True, False, None, "0", (0,), [0], 2 ** 70):
            self.refused(BadNumber, (value,), origin.__getitem__, value)

    def test_within_leaves_the_origin_as_it_is(self):
        origin = Origin(("a", 1))
        origin.within("b", 2)
        self.assertEqual(str(origin), "a:1")

    def test_equality(self):
        self.assertIs(Origin(("a", 1)) == Origin(("a", 1)), True)
        for other in (Origin(("a", 2)), Origin(("b", 1)), Origin(("a", 1), ("a", 1)), "a:1", (("a", 1),), None):
            self.assertIs(Origin(("a", 1)) == other, False)
            self.assertIs(Origin(("a", 1)) != other, True)
