"""Fields: [36]."""

from helpers import LIMIT, Case
from macroasm.errors import BadName, BadNumber
from macroasm.fields import field_bounds


class Bounds(Case):
    def test_each_word(self):
        for word, cells in (("1", 1), ("2", 2), ("4", 4)):
            half = 256 ** cells // 2
            for behind in (0, 7, 2 ** 40):
                self.assertEqual(field_bounds("u" + word, behind), (0, 2 * half - 1))
                self.assertEqual(field_bounds("s" + word, behind), (-half, half - 1))
                self.assertEqual(field_bounds("r" + word, behind), (behind - half, behind + half - 1))
            self.assertEqual(field_bounds("r" + word), field_bounds("s" + word))

    def test_pairs(self):
        for number in (0, -5, LIMIT, -LIMIT):
            self.assertEqual(field_bounds(("n", number), 9), (number, number))

    def test_what_is_no_field(self):
        for wrong in (
            "u3", "u", "", "n", "U1", "b1", "u1 ", None, 5, True, (), [], {}, ("n",), ("n", 1, 2), ["n", 1], ("u1", 1),
            ("n", True), ("n", None), ("n", "1"), ("n", LIMIT + 1), ("n", -LIMIT - 1), ((), 1),
        ):
            self.refused(BadName, (wrong,), field_bounds, wrong)
            self.refused(BadName, (wrong,), field_bounds, wrong, -1)

    def test_what_is_no_address(self):
        for wrong in (-1, 2 ** 40 + 1, None, "0", (), [], True, False, LIMIT):
            for field in ("r1", "u4", ("n", 3)):
                self.refused(BadNumber, (wrong,), field_bounds, field, wrong)
        self.assertEqual(field_bounds("r1", behind=1), (-127, 128))
