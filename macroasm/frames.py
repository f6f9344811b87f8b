"""Lines that are being reached: those of the text, of a call, or of a repeat."""


class Frame:
    """Lines from one index to another, which are reached one after the other."""

    def __init__(self, lines, plan, start, outward):
        self.lines = lines
        self.plan = plan
        # The name of the source, and the number of the first of the lines in it.
        self.start = start
        # The pairs of the origin of the line that opened this frame, () for the text.
        self.outward = outward
        self.at = 0
        self.stop = len(lines)
        self.call = None
        self.call_number = 0
        self.rounds = None

    def pairs_at(self, at):
        """The pairs of the origin of a line."""
        source, first = self.start
        return ((source, first + at), *self.outward)

    def twin(self):
        """A frame that goes on from here by itself."""
        frame = Frame(self.lines, self.plan, self.start, self.outward)
        frame.at = self.at
        frame.stop = self.stop
        frame.call = self.call
        frame.call_number = self.call_number
        frame.rounds = None if self.rounds is None else self.rounds.twin()
        return frame

    def repeated(self, rounds, stop, outward):
        """The frame for the rounds of a repeat among these lines, ahead of its first round."""
        frame = Frame(self.lines, self.plan, self.start, outward)
        frame.stop = stop
        frame.call_number = self.call_number
        frame.rounds = rounds
        return frame


class Call:
    """An open call: its macro, its arguments, and the variables of its beginning."""

    def __init__(self, macro_name, arguments, variables):
        self.called = macro_name
        self.given = arguments
        self.variables_then = variables

    def is_like(self, other):
        """Whether a call of the same macro begins in the same way."""
        told = (self.called, self.given, self.variables_then)
        return told == (other.called, other.given, other.variables_then)


class Rounds:
    """The rounds of an open repeat: how many there are, what counts them, where they begin, how many have begun."""

    def __init__(self, many, counter, begin):
        self.many = many
        self.counter = counter
        self.begin = begin
        self.done = 0

    def twin(self):
        """Rounds that go on from here by themselves."""
        rounds = Rounds(self.many, self.counter, self.begin)
        rounds.done = self.done
        return rounds
