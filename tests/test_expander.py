"""Plain lines and their origins, and the Expander: [26], [27]."""

import random

from helpers import Case, fields_of
from macroasm.errors import BadBlock, BadCall, BadLine, BadName, BadOperands, NoName, Taken, TooLarge, Trouble
from macroasm.expanding import CountingExpander, Expander, expanded
from macroasm.macros import Macro, macros_of
from macroasm.origins import Origin

PROGRAM = """set n = 2
macro out a
x $a
repeat n, i
in $a, $(i)
endrepeat
endmacro
macro in a, b
y $a $b
endmacro
one
repeat n, j
out $(j)
endrepeat
l: in 8, 9
last"""
PLAIN = [
    ("one", "p:11"),
    ("x 0", "p:3<p:13<p:12"), ("y 0 0", "p:9<p:5<p:4<p:13<p:12"), ("y 0 1", "p:9<p:5<p:4<p:13<p:12"),
    ("x 1", "p:3<p:13<p:12"), ("y 1 0", "p:9<p:5<p:4<p:13<p:12"), ("y 1 1", "p:9<p:5<p:4<p:13<p:12"),
    ("l:", "p:15"), ("y 8 9", "p:9<p:15"), ("last", "p:16"),
]


def told(found):
    """Plain lines with the texts of their origins."""
    return [(text, str(origin)) for text, origin in found]


def state(expander):
    """What an expander tells of itself."""
    return (
        expander.calls_begun, expander.steps_done, expander.is_done, expander.variables(), expander.open_calls(),
    )


class Origins(Case):
    def test_repeats_and_calls_stand_outward(self):
        self.assertEqual(told(expanded(PROGRAM, source="p")), PLAIN)

    def test_the_source(self):
        text, origin = expanded("\na")[0]
        self.assertEqual((text, origin), ("a", Origin(("text", 2))))
        self.assertEqual(str(expanded("a", source="b" * 20)[0][1]), "b" * 20 + ":1")

    def test_conditions_have_no_pair(self):
        self.assertEqual(told(expanded("if 1\nif 1\na\nendif\nendif")), [("a", "text:3")])

    def test_trimmed_texts(self):
        self.expands(["a b", "x:", "c = 5"], "  a b  \n\n x: ;\n c = 5 ; d")

    def test_a_tuple_of_pairs(self):
        found = expanded("a\nb")
        self.assertIs(type(found), tuple)
        self.assertIs(type(found[0]), tuple)
        self.assertIs(type(found[0][1]), Origin)
        self.assertEqual(expanded(""), ())

    def test_origins_of_trouble(self):
        self.in_trouble("text:4<text:3<text:2", NoName, ("x",), "\nrepeat 1\nrepeat 2\na $(x)\nendrepeat\nendrepeat")
        self.in_trouble("text:2<text:5", BadOperands, (0,), "macro m\nif\nendif\nendmacro\nm")


class Steps(Case):
    def test_step_by_step(self):
        expander = Expander(PROGRAM, source="p")
        self.assertEqual(state(expander), (0, 0, False, {}, ()))
        told_by_step = []
        for _ in PLAIN:
            told_by_step.append(expander.step())
            self.assertFalse(expander.is_done)
        self.assertEqual(told(told_by_step), PLAIN)
        for _ in range(3):
            self.assertIsNone(expander.step())
            self.assertEqual(state(expander), (7, 33, True, {"n": 2, "j": 1, "i": 1}, ()))

    def test_what_it_tells_on_the_way(self):
        expander = Expander(PROGRAM, source="p")
        wanted = [
            (0, 2, False, {"n": 2}, ()), (1, 7, False, {"n": 2, "j": 0}, ("out",)),
            (2, 12, False, {"n": 2, "j": 0, "i": 0}, ("out", "in")),
            (3, 16, False, {"n": 2, "j": 0, "i": 1}, ("out", "in")),
        ]
        for each in wanted:
            expander.step()
            self.assertEqual(state(expander), each)

    def test_rest(self):
        expander = Expander(PROGRAM, source="p")
        self.assertEqual(told([expander.step()]) + told(expander.rest()), PLAIN)
        self.assertTrue(expander.is_done)
        self.assertEqual(list(expander.rest()), [])

    def test_rest_is_a_generator(self):
        expander = Expander("a\nb\nc")
        rest = expander.rest()
        self.assertEqual(next(rest)[0], "a")
        self.assertEqual(expander.step()[0], "b")
        self.assertEqual([text for text, _ in rest], ["c"])

    def test_nothing_at_all(self):
        expander = Expander("")
        self.assertFalse(expander.is_done)
        self.assertIsNone(expander.step())
        self.assertTrue(expander.is_done)

    def test_results_belong_to_the_caller(self):
        expander = Expander("set a = 1\nb $(a)\nc $(a)")
        expander.step()
        expander.variables()["a"] = 5
        self.assertEqual(expander.step()[0], "c 1")


class Copies(Case):
    def test_copies_go_on_by_themselves(self):
        for many in range(len(PLAIN) + 2):
            expander = Expander(PROGRAM, source="p")
            for _ in range(many):
                expander.step()
            twin = expander.copy()
            self.assertIs(type(twin), Expander)
            self.assertEqual(state(twin), state(expander))
            self.assertEqual(told(twin.rest()), PLAIN[many:])
            self.assertEqual(told(expander.rest()), PLAIN[many:])
            self.assertEqual(state(twin), state(expander))

    def test_variables_are_apart(self):
        expander = Expander("set a = 1\nb\nset a = 2\nset c = 3\nd $(a)")
        expander.step()
        twin = expander.copy()
        twin.step()
        self.assertEqual((expander.variables(), twin.variables()), ({"a": 1}, {"a": 2, "c": 3}))

    def test_rounds_are_apart(self):
        expander = Expander("repeat 3, i\n$(i)\nendrepeat")
        expander.step()
        twin = expander.copy()
        self.assertEqual([text for text, _ in twin.rest()], ["1", "2"])
        self.assertEqual([text for text, _ in expander.rest()], ["1", "2"])

    def test_behind_a_label_of_a_call(self):
        expander = Expander("macro m\na\nendmacro\nx: m")
        expander.step()
        twin = expander.copy()
        self.assertEqual([text for text, _ in twin.rest()], ["a"])
        self.assertEqual([text for text, _ in expander.rest()], ["a"])

    def test_trouble_is_copied(self):
        expander = Expander("$x")
        with self.assertRaises(Trouble):
            expander.step()
        with self.assertRaises(Trouble):
            expander.copy().step()


class Troubles(Case):
    def test_trouble_is_raised_anew(self):
        expander = Expander("a\n$x\nb")
        expander.step()
        found = []
        for call in (expander.step, expander.step, lambda: list(expander.rest())):
            with self.assertRaises(Trouble) as caught:
                call()
            found.append(caught.exception)
        for trouble in found:
            self.assertEqual((str(trouble.origin), type(trouble.cause), trouble.cause.column), ("text:2", BadLine, 0))
        self.assertIsNot(found[0], found[1])
        self.assertFalse(expander.is_done)

    def test_limits_are_raised_anew(self):
        expander = Expander("repeat 2001\na\nendrepeat")
        for _ in range(2000):
            expander.step()
        for _ in range(3):
            with self.assertRaises(Trouble) as caught:
                expander.step()
            self.assertEqual(fields_of(caught.exception.cause), (2000,))

    def test_lines_in_front_come_first(self):
        rest = Expander("a\nb\nif 1/0\nendif").rest()
        self.assertEqual([next(rest)[0], next(rest)[0]], ["a", "b"])
        with self.assertRaises(Trouble):
            next(rest)

    def test_the_order_of_the_first_errors(self):
        wrong = "macro 9\nendmacro\n"
        self.refused(BadName, ("9",), Expander, "a" * 20001, source="9", library=5)
        self.refused(TooLarge, (20000,), Expander, wrong + "if\n" + "a" * 20000, library=5)
        self.refused(TooLarge, (400,), Expander, wrong + "if\n" + "a" * 401, library=5)
        self.refused(BadBlock, (3,), Expander, wrong + "if", library=5)
        self.refused(BadCall, (5,), Expander, wrong, library=5)
        with self.assertRaises(Trouble):
            Expander("$x\n" + wrong, library={})
        with self.assertRaises(Trouble) as caught:
            Expander("$x\n" + wrong)
        self.assertEqual(str(caught.exception.origin), "text:2")

    def test_all_ways_refuse_alike(self):
        for made in (Expander, CountingExpander, expanded):
            self.refused(BadBlock, (1,), made, "endif")
            self.refused(BadName, (None,), made, "", source=None)
            self.refused(BadCall, ([],), made, "", library=[])


class Libraries(Case):
    def setUp(self):
        self.macro = Macro("m", (("a", None),), ("x $a", "k"), source="lib", line=10)
        self.other = macros_of("\nmacro k\ny\nendmacro", source="more")["k"]

    def test_macros_beside_those_of_the_text(self):
        library = {"m": self.macro, "k": self.other}
        self.assertEqual(told(expanded("m 5\nmacro n\nm 6\nendmacro\nn", library=library)), [
            ("x 5", "lib:11<text:1"), ("y", "more:3<lib:12<text:1"), ("x 6", "lib:11<text:3<text:5"),
            ("y", "more:3<lib:12<text:3<text:5"),
        ])
        self.assertEqual(library, {"m": self.macro, "k": self.other})

    def test_macros_of_the_text_are_known_in_the_library(self):
        text = "macro k\nz\nendmacro\nm 5"
        self.expands(["x 5", "z"], text, library={"m": self.macro})
        self.expands(["x 5", "k"], "m 5", library={"m": self.macro})

    def test_taken_names(self):
        self.in_trouble("text:2", Taken, ("m",), "\nmacro m 9\nendmacro", library={"m": self.macro})
        self.in_trouble("text:1", BadName, ("9",), "macro 9\nendmacro\nmacro m\nendmacro", library={"m": self.macro})

    def test_what_is_no_library(self):
        for given in (
            5, True, "m", [], (), [self.macro], {"m": None}, {"m": "m"}, {"k": self.macro}, {None: self.macro},
            {"m": self.macro, "k": self.macro}, {5: self.other}, self.macro,
        ):
            self.refused(BadCall, (given,), Expander, "", library=given)
        self.assertEqual(expanded("m", library={})[0][0], "m")

    def test_what_is_passed_is_not_kept(self):
        library = {"m": self.macro, "k": self.other}
        expander = Expander("m 5", library=library)
        library.clear()
        self.assertEqual(len(list(expander.rest())), 2)

    def test_trouble_in_a_library(self):
        macro = Macro("m", (), ("", "a $(x)"), source="lib", line=3)
        self.in_trouble("lib:5<text:1", NoName, ("x",), "m", library={"m": macro})


class Counting(Case):
    def test_counts(self):
        expander = CountingExpander(PROGRAM, source="p")
        self.assertIsInstance(expander, Expander)
        self.assertEqual(expander.counts(), {})
        self.assertEqual(told(expander.rest()), PLAIN)
        self.assertEqual(list(expander.counts().items()), [("out", 2), ("in", 5)])

    def test_on_the_way(self):
        expander = CountingExpander("macro m\na\nendmacro\nmacro k\nendmacro\nx: m\nk\nm")
        wanted = [{}, {"m": 1}, {"m": 2, "k": 1}, {"m": 2, "k": 1}]
        for counts in wanted:
            expander.step()
            self.assertEqual(expander.counts(), counts)

    def test_copies(self):
        expander = CountingExpander("macro m\na\nendmacro\nm\nm")
        expander.step()
        twin = expander.copy()
        self.assertIs(type(twin), CountingExpander)
        twin.step()
        self.assertEqual((expander.counts(), twin.counts()), ({"m": 1}, {"m": 2}))
        expander.counts()["m"] = 9
        self.assertEqual(expander.counts(), {"m": 1})

    def test_libraries(self):
        expander = CountingExpander("m", library={"m": Macro("m", (), ("a",))})
        expander.step()
        self.assertEqual(expander.counts(), {"m": 1})


class Facts(Case):
    def some_lines(self, chance, depth):
        """Lines with repeats, and the same ones with the repeats written out."""
        short, long = [], []
        for _ in range(chance.randrange(1, 4)):
            kind = chance.randrange(4) if depth > 0 else 3
            if kind == 0:
                inner_short, inner_long = self.some_lines(chance, depth - 1)
                count, name = chance.randrange(-1, 4), f"v{depth}"
                short += [f"repeat {count}, {name}", *inner_short, "endrepeat"]
                for at in range(count):
                    long += [f"set {name} = {at}", *inner_long]
            elif kind == 1:
                inner_short, inner_long = self.some_lines(chance, depth - 1)
                short += [f"if w{depth} mod 2", *inner_short, "else", "other", "endif"]
                long += [f"if w{depth} mod 2", *inner_long, "else", "other", "endif"]
            elif kind == 2:
                line = f"set w{depth} = w{depth} + 1"
                short.append(line)
                long.append(line)
            else:
                line = f"a $(w1) $(w2) $(v1) $(v2) {chance.randrange(100)}"
                short.append(line)
                long.append(line)
        return short, long

    def test_a_repeat_is_its_lines_written_as_often(self):
        chance = random.Random(3)
        front = [f"set {name} = 0" for name in ("v1", "v2", "w1", "w2")]
        for _ in range(100):
            short, long = self.some_lines(chance, 2)
            one = [text for text, _ in expanded("\n".join(front + short))]
            other = [text for text, _ in expanded("\n".join(front + long))]
            self.assertEqual(one, other)

    def test_a_call_is_its_body_with_the_arguments_written_in(self):
        body = ["set n = n + {0}", "if n > {1}", "x {0} $(n)", "else", "repeat {1}", "y {2}", "endrepeat", "endif"]
        written = "\n".join(body).format("$a", "$b", "$c")
        front = f"macro m a, b, c = z\n{written}\nendmacro\nset n = 0\n"
        chance = random.Random(4)
        for _ in range(50):
            rows = [(chance.randrange(3), chance.randrange(6), chance.choice(("p", "q, r", ""))) for _ in range(3)]
            calls = "\n".join([f"m {a}, {b}, {{{c}}}" for a, b, c in rows])
            lines = "\n".join(["\n".join(body).format(a, b, c) for a, b, c in rows])
            one = [text for text, _ in expanded(front + calls)]
            other = [text for text, _ in expanded("set n = 0\n" + lines)]
            self.assertEqual(one, other)
