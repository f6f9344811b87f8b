"""Sessions and their commands: [69], [70]."""

from assembling_helpers import TABLE, ObjectCase
from helpers import LIMIT
from macroasm.errors import BadName
from macroasm.session import Session

ONE = "text one\nf: jump g\nexport f\nimport g"
TWO = "text two\nsection s\ng: byte 7, 8\ne = g - 20\nexport g, e"


class SessionCase(ObjectCase):
    def setUp(self):
        self.session = Session(TABLE)

    def answers(self, *pairs):
        """The answers to commands, in pairs with the commands."""
        for command, answer in pairs:
            told = self.session.execute(command)
            self.assertEqual((told, type(told)), (answer, str), command)


class Commands(SessionCase):
    def test_each_command(self):
        self.answers(
            (ONE, "ok"), (TWO, "ok"), ("list", "section main 0\n0: 1 0 ; one:1\nsection s 2\n2: 7 8 ; two:2"),
            ("value f", "0"), ("value g", "2"), ("value e", "-18"), ("cell 3", "8"), ("origin 3", "two:2"),
            ("origin 0", "one:1"),
            ("base 16", "ok"), ("value g", "18"), ("value e", "-2"), ("cell 16", "1"), ("cell 3", "bad place"),
            ("origin 15", "bad place"),
            ("list", "section main 16\n16: 1 0 ; one:1\nsection s 18\n18: 7 8 ; two:2"),
            ("drop one", "ok"), ("list", "section s 16\n16: 7 8 ; two:2"), ("undo", "ok"), ("undo", "ok"),
            ("value g", "2"),
        )
        self.assertEqual(self.session.piece_names(), ("one", "two"))

    def test_texts(self):
        self.answers(
            ("text a\n", "ok"), ("list", ""), ("text a\nbyte 1", "ok"), ("text b\nbyte 2\n", "ok"),
            ("text c\nbyte 3", "ok"),
            ("text b\nbyte 4", "ok"), ("cell 1", "4"), ("cell 2", "3"), ("origin 1", "b:1"),
        )
        self.assertEqual(self.session.piece_names(), ("a", "b", "c"))
        self.answers(("drop a", "ok"), ("text a\nbyte 9", "ok"), ("cell 2", "9"))
        self.assertEqual(self.session.piece_names(), ("b", "c", "a"))
        self.answers(("text a\ntext \"b c\"\nmacro m\nbyte 1\nendmacro\nm", "ok"), ("origin 4", "a:1"),
            ("origin 5", "a:3<a:5"))

    def test_what_is_no_command(self):
        self.answers((ONE, "ok"), (TWO, "ok"))
        for command in (
            "", " ", "\n", "text", "text a", "text a b\nbyte 1", "text\nbyte 1", "text \nbyte 1", " text a\nbyte 1",
            "text  a\nbyte 1", "text a \nbyte 1",
            "Text a\nbyte 1", "drop", "drop one two", "drop one\n", "drop one\nbyte 1", "drop  one", "drop one ",
            " drop one", "base", "base x", "base -1", "base 01",
            "base 00", "base 4294967297", "base 0x10", "base +1", "base 1 2", "base 1\n",
            "base 99999999999999999999999999", "base 1_0", "base 1.0", "undo 1", "undo ", "undo\n",
            " undo", "value", "value f g", "value f\n", "value  f", "cell", "cell f", "cell -1", "cell 00",
            "cell 4294967297", "cell 0\n", "cell 0 1",
            "origin", "origin x", "origin 01", "origin 0 ", "origin -0", "list ", "list 0", "list\n", "lists", "quit",
            "value\tf",
            None, 5, True, False, ("list",), ["list"], [], {}, (), self.session,
        ):
            self.answers((command, "bad command"))
        self.answers(("value g", "2"), ("undo", "ok"), ("undo", "ok"), ("undo", "nothing"))

    def test_numbers(self):
        self.answers(
            (TWO, "ok"), ("base 0", "ok"), ("cell 0", "7"), ("base 4294967296", "ok"), ("cell 4294967296", "7"),
            ("cell 4294967295", "bad place"),
            ("origin 4294967296", "two:2"), ("value g", "4294967296"), ("cell 0", "bad place"),
        )


class Errors(SessionCase):
    def test_lines(self):
        for text, answer in (
            ("halt\nq", "bad line a:2"), ("halt\nbyte x", "bad line a:2"), ("scope s\nhalt", "bad line a:1"),
            ("endscope", "bad line a:1"), ("x = x", "bad line a:1"),
            ("macro m\nq\nendmacro\n\nm", "bad line a:2"), ("repeat 3\nhalt\nset q = r\nendrepeat", "bad line a:3"),
            ("repeat 3\nhalt", "bad line a:1"),
            ("halt\n\nendif", "bad line a:3"), ("macro byte\nendmacro", "bad line a:1"),
            ("halt\nbyte 256", "bad line a:2"), ("byte '", "bad line a:1"),
        ):
            self.answers(("text a\n" + text, answer))
        self.answers(("undo", "nothing"))

    def test_texts(self):
        self.answers(("text a\n" + "\n" * 20001, "bad text"), ("text a\nhalt\n" + "x" * 401, "bad text"),
            ("text a\n" + "\n" * 20000, "bad line a:10001"))

    def test_names(self):
        for name in ("1", "a.b", "a" * 21, "a@1", ".a", "a-b", "a:1"):
            self.answers((f"text {name}\nhalt", "bad name"), (f"text {name}\nq", "bad name"),
                (f"text {name}\n" + "\n" * 20001, "bad name"))
        self.answers((ONE, "ok"), ("drop two", "bad name"), ("drop f", "bad name"), ("drop 5", "bad name"), (TWO, "ok"))
        for name in ("h", "two", "s", "1!f", "main", "5", ".f", "f.x"):
            self.answers((f"value {name}", "bad name"))
        self.answers(("text " + "a" * 20 + "\nhalt", "ok"), ("text byte\nhalt", "ok"))

    def test_links(self):
        looks = ("value f", "value nothing", "cell 0", "cell 99", "origin 0", "origin 99", "list")
        for command in looks:
            self.answers((command, "bad link"))
        self.answers((ONE, "ok"))
        for command in looks:
            self.answers((command, "bad link"))
        for wrong in ("f:\nexport f, g\ng:", "g: load 40000\nexport g", "g:\nexport g\nspace 65536",
            "g:\nexport g\n" + "halt\n" * 300):
            self.answers(("text wrong\n" + wrong, "ok"))
            for command in looks:
                self.answers((command, "bad link"))
            self.answers(("undo", "ok"))
        self.answers((TWO, "ok"), ("value f", "0"), ("value nothing", "bad name"), ("cell 99", "bad place"),
            ("origin 99", "bad place"))

    def test_values_that_are_too_large(self):
        self.answers(
            (f"text a\nhalt\nf:\ne = {LIMIT} - 1 + f\nexport e", "ok"), ("value e", str(LIMIT)), ("base 1", "ok"),
            ("value e", "bad link"),
            ("value f", "bad name"), ("cell 1", "8"), ("undo", "ok"), ("value e", str(LIMIT)),
        )

    def test_more_pieces_than_can_be_linked(self):
        for number in range(20):
            self.answers((f"text p{number}\nbyte {number}", "ok"))
        self.answers(("cell 19", "19"), ("text more\n", "ok"), ("cell 19", "bad link"), ("drop p0", "ok"),
            ("cell 18", "19"))

    def test_errors_change_nothing(self):
        self.answers((ONE, "ok"), (TWO, "ok"), ("base 4", "ok"))
        for command in ("text two\nq", "text two\nendif", "text 2\nhalt", "drop three", "base x", "value q",
            "cell 99", "text two\n" + "\n" * 20001, "nothing"):
            self.assertTrue(self.session.execute(command).startswith("bad"))
        self.assertEqual(self.session.piece_names(), ("one", "two"))
        self.answers(("value g", "6"), ("undo", "ok"), ("value g", "2"), ("undo", "ok"), ("value g", "bad link"))


class Undo(SessionCase):
    def test_each_kind(self):
        self.answers(
            ("undo", "nothing"), ("text a\nbyte 1", "ok"), ("text b\nbyte 2", "ok"), ("text a\nbyte 3", "ok"),
            ("drop a", "ok"), ("base 9", "ok"),
            ("base 9", "ok"), ("cell 9", "2"), ("undo", "ok"), ("cell 9", "2"), ("undo", "ok"),
            ("cell 9", "bad place"), ("cell 0", "2"),
            ("undo", "ok"), ("cell 0", "3"), ("cell 1", "2"), ("undo", "ok"), ("cell 0", "1"), ("undo", "ok"),
            ("cell 1", "bad place"),
            ("undo", "ok"), ("cell 0", "bad link"), ("undo", "nothing"), ("undo", "nothing"),
        )
        self.assertEqual(self.session.piece_names(), ())

    def test_what_is_not_taken_back(self):
        self.answers(
            ("text a\nbyte 1", "ok"), ("cell 0", "1"), ("list", "section main 0\n0: 1 ; a:1"), ("drop q", "bad name"),
            ("text b\nq", "bad line b:1"),
            ("undo", "ok"), ("undo", "nothing"), ("text a\nbyte 5", "ok"), ("cell 0", "5"), ("undo", "ok"),
            ("undo", "nothing"),
        )

    def test_the_order_of_pieces_comes_back(self):
        self.answers(("text a\n", "ok"), ("text b\n", "ok"), ("text c\n", "ok"), ("drop b", "ok"), ("text b\n", "ok"))
        self.assertEqual(self.session.piece_names(), ("a", "c", "b"))
        self.answers(("undo", "ok"), ("undo", "ok"))
        self.assertEqual(self.session.piece_names(), ("a", "b", "c"))


class Runs(SessionCase):
    COMMANDS = (ONE, "value f", TWO, "value f", 5, "base 3", "value g", "undo", "undo", "value g", "undo", "undo")
    ANSWERS = ["ok", "bad link", "ok", "0", "bad command", "ok", "5", "ok", "ok", "bad link", "ok", "nothing"]

    def test_run(self):
        self.assertEqual(self.session.run(self.COMMANDS), self.ANSWERS)
        self.assertEqual(self.session.run(()), [])
        self.assertEqual(self.session.run((ONE, TWO)), ["ok", "ok"])
        self.assertEqual(self.session.piece_names(), ("one", "two"))

    def test_answers_to(self):
        self.assertEqual(self.session.answers_to(self.COMMANDS), self.ANSWERS)
        self.assertEqual(self.session.answers_to(()), [])
        self.assertEqual((self.session.piece_names(), self.session.execute("undo")), ((), "nothing"))
        self.session.run((ONE, TWO, "base 8"))
        told = self.session.answers_to(("value f", "base 20", "drop one", "undo", "undo", "undo", "undo", "undo",
            "undo", "list"))
        self.assertEqual(told, ["8", "ok", "ok", "ok", "ok", "ok", "ok", "ok", "nothing", "bad link"])
        self.assertEqual(self.session.piece_names(), ("one", "two"))
        self.answers(("value f", "8"), ("undo", "ok"), ("value f", "0"))

    def test_what_is_no_tuple(self):
        for wrong in (None, 5, True, "list", ["list"], [], {}, self.session):
            self.refused(BadName, (wrong,), self.session.run, wrong)
            self.refused(BadName, (wrong,), self.session.answers_to, wrong)

    def test_two_sessions_by_turns(self):
        other = Session(TABLE)
        self.assertEqual([self.session.execute("text a\nbyte 1"), other.execute("text a\nbyte 2")], ["ok", "ok"])
        self.assertEqual([self.session.execute("cell 0"), other.execute("cell 0")], ["1", "2"])
        self.assertEqual([other.execute("base 5"), self.session.execute("cell 0"), other.execute("cell 5")],
            ["ok", "1", "2"])
        self.assertEqual([self.session.execute("undo"), other.execute("cell 5"), self.session.execute("cell 0")],
            ["ok", "2", "bad link"])
        self.assertEqual((self.session.piece_names(), other.piece_names()), ((), ("a",)))
