"""Objects that are joined: [58]."""

import itertools
import random

from assembling_helpers import ObjectCase, form, made, told
from helpers import LIMIT
from macroasm.errors import BadObject, Cycle, Taken, TooLarge
from macroasm.fragments import Data, Section
from macroasm.linear import Linear
from macroasm.objects import Object, joined


def pieces(*texts):
    """The objects of texts, each with a name of its own."""
    return tuple([made(text, f"t{number}") for number, text in enumerate(texts)])


class Joined(ObjectCase):
    def test_one(self):
        one = made("f: jump q\nsection s\ne = f - q\nexport e\nimport q\nbyte e, 1")
        self.assertTrue(joined((one,)) == one)

    def test_two(self):
        whole = joined(pieces(
            "f: byte f, g\nsection s\nhalt\na:\nimport g\nexport f",
            "section t\nx: byte x\nsection s\ng: jump f\na: byte a\nsection main\nb: byte b\nexport g\nimport f, h",
        ))
        self.has(whole, {
            "main": [[("b1", (0, ("f", 1))), ("b1", (0, ("g", 1)))], [("b1", (0, ("2!b", 1)))]],
            "s": [("halt",), ("jump", (0, ("f", 1))), [("b1", (0, ("2!a", 1)))]],
            "t": [[("b1", (0, ("2!x", 1)))]],
        })
        self.assertEqual((whole.pieces, len(whole)), (2, 6))
        self.assertEqual((whole.labels, whole.exports, whole.imports),
            (("1!a", "2!a", "2!b", "2!x", "f", "g"), ("f", "g"), ("h",)))
        places = [whole.place_of(name) for name in whole.labels]
        self.assertEqual(places, [("s", 1), ("s", 2), ("main", 1), ("t", 0), ("main", 0), ("s", 1)])
        self.assertEqual([str(one) for one in whole.origins_of("s")], ["t0:3", "t1:4", "t1:5"])

    def test_twenty(self):
        texts = [f"l{number}: byte l{(number + 1) % 20}\nx: byte x\nexport l{number}\nimport l{(number + 1) % 20}" for number in range(20)]
        whole = joined(pieces(*texts))
        self.assertEqual((whole.pieces, len(whole), whole.imports), (20, 40, ()))
        self.assertEqual(whole.exports, tuple(sorted([f"l{number}" for number in range(20)])))
        self.assertEqual(whole.labels, tuple(sorted([*whole.exports, *[f"{number + 1}!x" for number in range(20)]])))
        self.assertEqual(whole.place_of("20!x"), ("main", 39))

    def test_numbers_of_private_names(self):
        one, two, three = pieces("a: byte a", "a: byte a\nb:", "a: byte a\ne = a\nexport e")
        left = joined((joined((one, two)), three))
        self.assertEqual((left.labels, left.equations), (("1!a", "2!a", "2!b", "3!a"), ("e",)))
        self.assertTrue(left.form_of("e") == form("3!a"))
        right = joined((three, joined((one, two))))
        self.assertEqual((right.labels, right.pieces), (("1!a", "2!a", "3!a", "3!b"), 3))
        self.assertTrue(right.form_of("e") == form("1!a"))

    def test_sections_by_their_first_mention(self):
        whole = joined(pieces("section b\nsection c\nhalt", "section a\nsection c\nbyte 1\nsection main",
            "byte 2\nsection b\nbyte 3"))
        self.has(whole, {"b": [[3]], "c": [("halt",), [1]], "a": [], "main": [[2]]})


class Imports(ObjectCase):
    def test_labels(self):
        whole = joined(pieces("import f\nbyte f", "f: halt\nexport f"))
        self.has(whole, {"main": [[("b1", (0, ("f", 1)))], ("halt",)]})
        self.assertEqual((whole.imports, whole.exports), ((), ("f",)))
        whole = joined(pieces("import f\nbyte f", "f: halt"))
        self.assertEqual((whole.imports, whole.exports, whole.labels), (("f",), (), ("2!f",)))

    def test_equations(self):
        whole = joined(pieces("import e\nbyte 2 * e, 7\nd = 3 - e\nmove e, d", "export e\ne = f + 5\nf: byte e"))
        self.has(whole, {"main": [
            [("b1", (10, ("2!f", 2))), 7], ("move", (5, ("2!f", 1)), (-2, ("2!f", -1))), [("b1", (5, ("2!f", 1)))],
        ]})
        self.assertEqual((whole.imports, whole.exports), ((), ("e",)))
        self.assertTrue(whole.form_of("1!d") == form("-2!f-2"))

    def test_plain_ones_stay_patches(self):
        whole = joined(pieces("import e\nbyte e, e - 300", "export e\ne = 300"))
        self.has(whole, {"main": [[("b1", (300,)), ("b1", (0,))]]})

    def test_through_several_objects(self):
        texts = ("import e\nlong e", "import d\nexport e\ne = 2 * d + 1", "import c\nexport d\nd = c - 3",
            "export c\nc: halt", "import q, e\nbyte q - e")
        for order in itertools.permutations(range(5)):
            whole = joined(pieces(*[texts[number] for number in order]))
            self.assertEqual((whole.imports, told(whole.form_of("e")), told(whole.form_of("d"))),
                (("q",), (-5, ("c", 2)), (-3, ("c", 1))))
            first = [fragments for fragments in whole["main"].fragments if isinstance(fragments, Data)]
            forms = sorted([told(data.contents[0][1]) for data in first])
            self.assertEqual(forms, [(-5, ("c", 2)), (5, ("c", -2), ("q", 1))])

    def test_what_cancels_out(self):
        whole = joined(pieces("import a, b\nbyte a - b", "export a, b\na = x\nb = x + 1\nimport x"))
        self.has(whole, {"main": [[("b1", (-1,))]]})


class Refused(ObjectCase):
    def test_objects(self):
        one = made("halt")
        for wrong in (None, 5, [], [one], {}, "", one, True, (), (one,) * 21):
            self.refused(BadObject, (None,), joined, wrong)
        self.assertEqual(joined((one,) * 20).pieces, 20)
        for wrong in (None, 5, [], (), "halt", Section("main"), True):
            self.refused(BadObject, (1,), joined, (one, wrong, None))

    def test_names_that_two_export(self):
        one, two, three = pieces("z:\nb:\nexport z, b", "b = 1\na:\nz:\nexport b, a, z", "a:\nexport a")
        self.refused(Taken, ("b",), joined, (one, two))
        self.refused(Taken, ("a",), joined, (one, two, three))
        self.refused(Taken, ("a",), joined, (three, two))
        self.refused(BadObject, (2,), joined, (one, two, 5))
        self.assertEqual(joined((one, three)).exports, ("a", "b", "z"))

    def test_rings(self):
        texts = ("import d, f\nexport e\ne = d + 1\nx = 1", "import e\nexport d\nd = 2 * e",
            "import f2\nexport f\nf = f2", "import f\nexport f2\nf2 = f")
        self.refused(Cycle, (("d", "e"),), joined, pieces(*texts))
        self.refused(Cycle, (("f", "f2"),), joined, pieces(*texts[2:]))
        self.refused(Taken, ("x",), joined, pieces(*texts, "x:\nexport x", "x:\nexport x"))

    def test_rings_by_forms(self):
        whole = joined(pieces("import d\nexport e\ne = d - d + 4", "import e\nexport d\nd = e"))
        self.assertEqual((told(whole.form_of("d")), told(whole.form_of("e"))), ((4,), (4,)))
        self.refused(Cycle, (("d1", "e"),), joined, pieces("import d1, d2\nexport e\ne = d1 - d2",
            "import e\nexport d1, d2\nd1 = e\nd2 = e"))

    def test_forms(self):
        big = f"export e\ne = {LIMIT}"
        self.refused(TooLarge, (LIMIT,), joined, pieces("import e\nbyte e + 1", big))
        self.refused(TooLarge, (LIMIT,), joined, pieces("import e\nx = 2 * e", big))
        self.assertEqual(told(joined(pieces("import e\nx = e", big)).form_of("1!x")), (LIMIT,))
        many = "import " + ", ".join([f"q{number}" for number in range(16)]) + "\nexport e\ne = " + " + ".join([f"q{number}" for number in range(16)])
        self.refused(TooLarge, (16,), joined, pieces("import e, z\nbyte e + z", many))
        self.refused(TooLarge, (16,), joined, pieces("import e, z\nx = e + z", many))
        self.assertEqual(len(joined(pieces("import e\nx = e", many)).form_of("1!x")), 16)

    def test_pieces_come_last(self):
        half = Object(500000, [], {}, {}, ())
        self.assertEqual(joined((half, half)).pieces, 1000000)
        self.refused(TooLarge, (1000000,), joined, (half, half, made("halt")))
        self.refused(Cycle, (("a", "b"),), joined, (half, half, *pieces("import a\nexport b\nb = a",
            "import b\nexport a\na = b")))
        self.refused(TooLarge, (LIMIT,), joined, (half, half, *pieces("import e\nbyte e + 1",
            f"export e\ne = {LIMIT}")))
        last = joined((Object(999999, [], {}, {}, ()), made("a: byte a")))
        self.assertEqual(last.labels, ("1000000!a",))


class Neighbors(ObjectCase):
    def test_neighbors_joined_first(self):
        chance = random.Random(58)
        names = ["a", "b", "c", "d", "e"]
        for _ in range(60):
            shuffled = names[:]
            chance.shuffle(shuffled)
            objects = []
            for number in range(4):
                own = shuffled[number]
                others = [name for name in names if name != own]
                lines = [f"import {', '.join(others)}", f"export {own}", f"section {chance.choice('xyz')}",
                    f"p: byte p, {chance.choice(others)}"]
                later = [name for name in names if name > own]
                is_label = not later or chance.random() < 0.4
                lines.append(f"{own}:" if is_label else f"{own} = {chance.choice(later)} * 3 - p")
                lines.append(f"section {chance.choice('xyz')}\nlong {chance.choice(names)} - {chance.choice(names)}")
                objects.append(made("\n".join(lines), f"t{number}"))
            one, two, three, four = objects
            whole = joined(tuple(objects))
            for other in (
                (joined((one, two)), three, four), (one, joined((two, three)), four), (one, two, joined((three, four))),
                (joined((one, two)), joined((three, four))), (joined((joined((one, two, three)), four)),),
                (one, joined((two, three, four))),
            ):
                self.assertTrue(joined(other) == whole)
            self.assertEqual(whole.pieces, 4)

    def test_nothing_is_changed(self):
        texts = ("import e\na: byte a + e", "export e\na = 5\ne = a")
        objects = pieces(*texts)
        joined(objects)
        self.assertEqual([one == other for one, other in zip(objects, pieces(*texts))], [True, True])
        self.assertTrue(Linear(5) == objects[1].form_of("e"))
