"""Lines that are being reached: those of the text, of a call, or of a repeat."""


class Frame:
    """Lines from one index to another, which are reached one after the other."""

    def __init__(self, lines, plan, start, opened):
        self.lines = lines
        self.plan = plan
        # The name of the source, and the number of the first of the lines in it.
        self.start = start
        # Where the line stands that opened this frame, as here_at tells it, None for the text.
        self.opened = opened
        self.outward = () if opened is None else (opened[0], *opened[1])
        self.at = 0
        self.stop = len(lines)
        self.is_call = False
        self.call_number = 0
        self.rounds = None

    def here_at(self, at):
        """Where a line stands: its pair, and the tuple of the pairs outward."""
        source, first = self.start
        return (source, first + at), self.outward

    def twin(self):
        """A frame that goes on from here by itself."""
        frame = Frame(self.lines, self.plan, self.start, self.opened)
        frame.at = self.at
        frame.stop = self.stop
        frame.is_call = self.is_call
        frame.call_number = self.call_number
        frame.rounds = None if self.rounds is None else self.rounds.twin()
        return frame

    def repeated(self, rounds, stop, opened):
        """The frame for the rounds of a repeat among these lines, ahead of its first round."""
        frame = Frame(self.lines, self.plan, self.start, opened)
        frame.stop = stop
        frame.call_number = self.call_number
        frame.rounds = rounds
        return frame


class Call:
    """An open call: its macro, its arguments, and the variables of its beginning."""

    def __init__(self, macro_name, arguments, variables):
        self.called = macro_name
        # What calls have to have in common ahead of their variables to be a ring.
        self.beginning = (macro_name, arguments)
        self.variables_then = variables


class OpenCalls:
    """The open calls, outermost first."""

    def __init__(self):
        self._calls = []
        self._by_beginnings = {}

    def push(self, call):
        """Begin a call."""
        self._by_beginnings.setdefault(call.beginning, []).append((len(self._calls), call))
        self._calls.append(call)

    def take_off(self):
        """End the innermost call."""
        call = self._calls.pop()
        self._by_beginnings[call.beginning].pop()

    def macro_names(self):
        """The tuple of the macros that are called."""
        return tuple([call.called for call in self._calls])

    def ring_with(self, call):
        """The macros from the open call on that is like another call, () without such a call."""
        for depth, other in self._by_beginnings.get(call.beginning, []):
            if other.variables_then == call.variables_then:
                return self.macro_names()[depth:]
        return ()

    def twin(self):
        """Open calls that go on from here by themselves."""
        calls = OpenCalls()
        for call in self._calls:
            calls.push(call)
        return calls


class Rounds:
    """The rounds of an open repeat: how many there are, what counts them, where they begin, how many have begun."""

    def __init__(self, many, counter, begin):
        self.many = many
        self.counter = counter
        self.begin = begin
        self.done = 0

    def twin(self):
        """Rounds that go on from here by themselves."""
        rounds = Rounds(self.many, self.counter, self.begin)
        rounds.done = self.done
        return rounds
