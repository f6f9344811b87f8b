"""What the document promises over the whole program: [46], [47], [50], [56], [58], [67], by random programs."""

import random

from assembling_helpers import TABLE, ObjectCase, lines_of
from macroasm.assembling import object_of
from macroasm.errors import OutOfRange, TooLarge, Trouble
from macroasm.layout import Layout
from macroasm.linking import assembled, explains, link, steps
from macroasm.objects import joined
from macroasm.objecttexts import object_text, read_object

GAPS = (0, 1, 120, 124, 125, 126, 127, 128, 130, 250)


def layout_of(whole, base):
    """The layout of a joined object."""
    places = {label: whole.place_of(label) for label in whole.labels}
    return Layout(tuple([whole[name] for name in whole.sections]), places, TABLE, base=base)


def random_lines(chance, many, moving, aligned):
    """Plain lines with labels l0 to l4; moving: operands as [50] wants them for the least layout."""
    lines = []
    for number in range(many):
        name = f"l{chance.randrange(5)}"
        line = chance.choice((f"jump {name}", f"jump {name}", f"space {chance.choice(GAPS)}", "byte 1", "halt",
            f"load {chance.choice((0, 5, 300))}"))
        if not moving and chance.random() < 0.3:
            line = chance.choice((f"load {name} - l0", f"move 3, {name} - l1", f"word {name} - l2"))
        if aligned and chance.random() < 0.2:
            line = f"align {chance.choice((1, 2, 4, 8, 16))}"
        lines.append(line)
    for label in range(5):
        at = chance.randrange(len(lines))
        lines[at] = lines[at] if ":" in lines[at] else f"l{label}: {lines[at]}"
        if not lines[at].startswith(f"l{label}:"):
            lines.append(f"l{label}: byte 2")
    return lines


class Leastness(ObjectCase):
    def test_all_orders_lead_to_the_forms_of_the_image(self):
        chance = random.Random(67)
        grown = 0
        for _ in range(60):
            whole = object_of(lines_of("\n".join(random_lines(chance, 14, True, False))), TABLE)
            base = chance.choice((0, 3, 5000))
            image = link((whole,), TABLE, base=base)
            layout = layout_of(whole, base)
            wanted = {(name, index): layout.form_of(name, index) for name, index in self.choices(whole)}
            self.assertTrue(all([layout.form_of(*place) == 0 for place in wanted if place not in [row[1:3] for row in image.growths]]))
            for _ in range(3):
                rows = self.random_steps(chance, whole, base)
                found = {place: 0 for place in wanted}
                found.update({(name, index): form for name, index, form in rows})
                self.assertEqual(found, wanted)
                grown += len(rows)
        self.assertGreater(grown, 200)

    def choices(self, whole):
        """The places of the choices."""
        return [(name,
            index) for name in whole.sections for index in range(len(whole[name])) if hasattr(whole[name][index],
                "operands")]

    def random_steps(self, chance, whole, base):
        """Steps that are enough, each time a choice by chance, found by trying."""
        rows = []
        while not explains((whole,), TABLE, tuple(rows), base=base):
            counting = [row for row in self.possible(whole) if self.counts(whole, base, (*rows, row))]
            rows.append(chance.choice(counting))
        return rows

    def possible(self, whole):
        """All rows that name a choice and a form."""
        return [(name, index, form) for name, index in self.choices(whole) for form in range(1,
            len(TABLE[whole[name][index].name]))]

    def counts(self, whole, base, rows):
        """Whether all rows count: with further steps they are enough, or they are so already."""
        forms = {place: 0 for place in self.choices(whole)}
        for name, index, form in rows:
            if form != self.next_form(whole, base, forms, (name, index)) or form == forms[name, index]:
                return False
            forms[name, index] = form
        return True

    def next_form(self, whole, base, forms, place):
        """The form of a choice behind a pass, by hand."""
        addresses = self.addresses(whole, base, forms)
        labels = {label: addresses[whole.place_of(label)] for label in whole.labels}
        choice = whole[place[0]][place[1]]
        many = len(TABLE[choice.name])
        for form in range(forms[place], many):
            opcode, fields = TABLE[choice.name][form]
            end = addresses[place] + self.length(choice.name, form)
            values = [operand(labels) for operand in choice.operands]
            if all([self.fits(field, value, end, operand.is_plain) for field, value,
                operand in zip(fields, values, choice.operands)]):
                return form
        return many - 1

    def fits(self, field, value, end, is_plain):
        """Whether a value fits a field."""
        if isinstance(field, tuple):
            return is_plain and value == field[1]
        most = 256 ** int(field[1])
        if field[0] == "u":
            return 0 <= value < most
        return -most // 2 <= value - (end if field[0] == "r" else 0) < most // 2

    def length(self, name, form):
        """The number of the cells of a form."""
        opcode, fields = TABLE[name][form]
        return len(opcode) + sum([0 if isinstance(field, tuple) else int(field[1]) for field in fields])

    def addresses(self, whole, base, forms):
        """The addresses of all fragments and ends, for sections without alignments."""
        found = {}
        at = base
        for name in whole.sections:
            for index, fragment in enumerate(whole[name].fragments):
                found[name, index] = at
                if hasattr(fragment, "operands"):
                    at += self.length(fragment.name, forms[name, index])
                elif hasattr(fragment, "amount"):
                    at += fragment.amount
                else:
                    at += sum([int(item[0][1]) if isinstance(item, tuple) else 1 for item in fragment.contents])
            found[name, len(whole[name])] = at
        return found

    def test_steps_lead_there_too(self):
        chance = random.Random(66)
        for _ in range(40):
            whole = object_of(lines_of("\n".join(random_lines(chance, 20, True, False))), TABLE)
            rows = tuple(steps((whole,), TABLE))
            self.assertTrue(explains((whole,), TABLE, rows))
            layout = layout_of(whole, 0)
            for name, index in self.choices(whole):
                last = [form for one, other, form in rows if (one, other) == (name, index)][-1:]
                self.assertEqual(last or [0], [layout.form_of(name, index)])


class Bases(ObjectCase):
    def test_another_base_moves_all_addresses(self):
        chance = random.Random(64)
        for _ in range(60):
            whole = object_of(lines_of("\n".join(random_lines(chance, 12, chance.random() < 0.5,
                True)) + "\nlong l0\nexport l0, l1, l2, l3, l4"), TABLE)
            base, more = chance.randrange(100), 64 * chance.randrange(1, 20)
            try:
                one = link((whole,), TABLE, base=base)
            except OutOfRange as cause:
                self.refused(OutOfRange, (cause.section, cause.index), link, (whole,), TABLE, base=base + more)
                continue
            other = link((whole,), TABLE, base=base + more)
            self.assertEqual([(row[0], row[1], row[2] + more, row[3]) for row in one.ranges()],
                [row[:4] for row in other.ranges()])
            self.assertEqual([one.value(name) + more for name in one.exports],
                [other.value(name) for name in other.exports])
            self.assertEqual(one.growths, other.growths)
            for name, index, address, count, _ in one.ranges():
                if not hasattr(whole[name][index], "contents"):
                    cells = [[image[at + place] for place in range(count)] for image,
                        at in ((one, address), (other, address + more))]
                    self.assertEqual(cells[0], cells[1])

    def test_data_alone_may_be_out_of_range_then(self):
        whole = assembled("f: jump f\nbyte f", TABLE)
        self.assertEqual(link((whole,), TABLE, base=64).sections, (("main", 64, (1, 254, 64)),))
        self.refused(OutOfRange, ("main", 1), link, (whole,), TABLE, base=256)


class Pieces(ObjectCase):
    def cut(self, parts):
        """The parts of a text as pieces: each exports all its names and imports all others."""
        own = []
        for part in parts:
            labels = [line.split(":")[0] for line in part if ":" in line.split("\"")[0]]
            own.append(labels + [line.split(" = ")[0] for line in part if " = " in line])
        pieces = []
        for number, part in enumerate(parts):
            others = [name for at, names in enumerate(own) if at != number for name in names]
            told = [f"import {name}" for name in others] + [f"export {name}" for name in own[number]]
            pieces.append([*part, *told])
        return pieces

    def test_a_text_cut_into_pieces(self):
        chance = random.Random(58)
        linked = 0
        for _ in range(80):
            parts = []
            for number in range(3):
                section = chance.choice(("main", "a", "b"))
                part = [] if number == 0 else [f"section {section}"]
                names = [f"p{number}", f"q{number}"]
                for name in names:
                    used = f"{chance.choice('pqe')}{chance.randrange(3)}"
                    part.append(f"{name}: " + chance.choice((f"jump {used}", f"word {used} - p0", f"load {used} - q1",
                        "halt")))
                    part.append(chance.choice((f"space {chance.choice(GAPS)}", "align 4", "byte 1, 2", "section a")))
                uses = f"{chance.choice('pq')}{chance.randrange(3)}"
                part.append(f"e{number} = {chance.randrange(9)} + {uses} - p1" + (f" + e{number + 1}" if number < 2 and chance.random() < 0.5 else ""))
                parts.append(part)
            linked += self.check_parts(parts)
        self.assertGreater(linked, 40)

    def check_parts(self, parts):
        """Whether the whole is linked; if so, the pieces give the same."""
        origins = iter(lines_of("\n".join([line for part in parts for line in part])))
        exported = [f"export {name}" for number in range(3) for name in (f"p{number}", f"q{number}", f"e{number}")]
        rows = [next(origins) for _ in range(sum([len(part) for part in parts]))]
        last = rows[-1][1]
        whole = object_of((*rows, *[(line, last) for line in exported]), TABLE)
        objects = []
        for part, piece in zip(parts, self.cut(parts)):
            own = rows[:len(part)]
            rows = rows[len(part):]
            objects.append(object_of((*own, *[(line, last) for line in piece[len(part):]]), TABLE))
        try:
            image = link((whole,), TABLE)
        except OutOfRange as cause:
            self.refused(OutOfRange, (cause.section, cause.index), link, tuple(objects), TABLE)
            return 0
        other = link(tuple(objects), TABLE)
        self.assertTrue(image == other)
        self.assertEqual((image.sections, image.exports, image.listing()),
            (other.sections, other.exports, other.listing()))
        self.assertEqual([row[:4] for row in image.ranges()], [row[:4] for row in other.ranges()])
        self.assertTrue(joined((whole,)).is_like(whole) and joined(tuple(objects)).pieces == 3)
        return 1

    def test_texts_of_objects_on_the_way(self):
        chance = random.Random(59)
        for _ in range(30):
            texts = ["\n".join(random_lines(chance, 8, False, True)) for _ in range(2)]
            objects = tuple([object_of(lines_of(text, f"t{number}"), TABLE) for number, text in enumerate(texts)])
            again = tuple([read_object(object_text(one)) for one in objects])
            self.assertTrue(all([one == other for one, other in zip(objects, again)]))
            whole = joined(objects)
            self.assertTrue(read_object(object_text(whole)) == whole == joined(again))


class Sections(ObjectCase):
    def test_they_follow_one_another(self):
        chance = random.Random(46)
        for _ in range(40):
            lines = []
            for name in "abcde":
                lines.append(f"section {name}")
                lines += random.Random(chance.random()).choices(("byte 1", "space 3", "align 8", "align 2, 9", "halt",
                    "space 0"), k=3)
            whole = object_of(lines_of("\n".join(lines)), TABLE)
            base = chance.randrange(50)
            image = link((whole,), TABLE, base=base)
            at = base
            for name, address, cells in image.sections:
                most = whole[name].alignment
                self.assertEqual(address, at + -at % most)
                at = address + len(cells)

    def test_limits(self):
        self.assertEqual(len(link((assembled("space 65536", TABLE),), TABLE)), 65536)
        self.refused(TooLarge, (65536,), link, (assembled("space 65536\nbyte 1", TABLE),), TABLE)
        with self.assertRaises(Trouble):
            assembled("repeat 2001\nhalt\nendrepeat", TABLE)
