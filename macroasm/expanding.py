"""The expansion of a text to plain lines."""

from macroasm.blocks import DIRECTIVES, check_lengths, plan_of, program_lines
from macroasm.directives import condition, repeating, sameness, setting
from macroasm.errors import (
    BadCall, LimitTrouble, LookupTrouble, Ring, StateTrouble, TextError, TooLarge, Trouble, ValueTrouble,
)
from macroasm.filling import check_own_names, numbered
from macroasm.frames import Call, Frame, OpenCalls, Rounds
from macroasm.macros import Macro, check_source, defined_macros
from macroasm.origins import Origin
from macroasm.readers import Reader
from macroasm.scanning import BARRED_BEHIND, MOST_IN_LINE, row_end

MOST_OPEN = 100
MOST_STEPS = 10000
MOST_VARIABLES = 100
MOST_PLAIN_LINES = 2000


class Expander:
    """Expands a text, plain line by plain line."""

    def __init__(self, text, *, source="text", library=None):
        check_source(source)
        lines = program_lines(text)
        plan = plan_of(lines)
        known = _checked_library(library)
        self._macros = dict(known)
        self._macros.update(defined_macros(lines, plan, source, known))
        self._reader = Reader()
        self._frames = [Frame(lines, plan, (source, 1), None)]
        self._calls = OpenCalls()
        # Where the line stands that was reached last, as Frame.here_at tells it.
        self._here = self._frames[0].here_at(0)
        # The name of a macro and the line that calls it, None if no call is to begin.
        self._waiting = None
        self._variables = {}
        self._calls_begun = 0
        self._steps_done = 0
        self._many_plain = 0
        self._is_done = False
        self._trouble = None

    @property
    def calls_begun(self):
        """How many calls have begun."""
        return self._calls_begun

    @property
    def steps_done(self):
        """How many steps have been done."""
        return self._steps_done

    @property
    def is_done(self):
        """Whether step has returned None."""
        return self._is_done

    def variables(self):
        """A dict of the variables and their values."""
        return dict(self._variables)

    def open_calls(self):
        """A tuple of the macros of the open calls, outermost first."""
        return self._calls.macro_names()

    def copy(self):
        """An Expander that goes on from here by itself."""
        twin = Expander("")
        self._give_state(twin)
        return twin

    def step(self):
        """The next plain line, a pair of its text and its origin, or None behind the last one."""
        if self._trouble is None:
            try:
                return self._next_line()
            except (TextError, ValueTrouble, LookupTrouble, StateTrouble, LimitTrouble) as cause:
                self._trouble = (self._origin(), cause)
        raise Trouble(self._trouble[0], self._trouble[1])

    def rest(self):
        """Yield all further plain lines."""
        found = self.step()
        while found is not None:
            yield found
            found = self.step()

    def _give_state(self, twin):
        twin._macros = self._macros
        twin._reader = self._reader
        twin._frames = [frame.twin() for frame in self._frames]
        twin._calls = self._calls.twin()
        twin._here = self._here
        twin._waiting = self._waiting
        twin._variables = dict(self._variables)
        twin._calls_begun = self._calls_begun
        twin._steps_done = self._steps_done
        twin._many_plain = self._many_plain
        twin._is_done = self._is_done
        twin._trouble = self._trouble

    def _next_line(self):
        while self._frames:
            frame = self._frames[-1]
            found = None
            if self._waiting is not None:
                self._begin_call()
            elif frame.at == frame.stop:
                self._leave(frame)
            else:
                found = self._reach(frame)
            if found is not None:
                return found
        self._is_done = True
        return None

    def _leave(self, frame):
        rounds = frame.rounds
        if rounds is not None and rounds.done < rounds.many:
            if rounds.begin == frame.stop:
                # Of rounds without lines only the last one leaves something behind.
                self._count_steps(rounds.many - 1 - rounds.done)
                rounds.done = rounds.many - 1
            self._begin_round(frame)
            return
        if frame.is_call:
            self._calls.take_off()
        self._frames.pop()

    def _reach(self, frame):
        """Go on with the next line of a frame; the plain line that it gives, or None."""
        at = frame.at
        word = frame.plan.words[at]
        frame.at = at + 1
        if word in ("macro", "else", "endif"):
            frame.at = frame.plan.targets.get(at, at + 1)
            return None
        self._here = frame.here_at(at)
        self._count_steps(1)
        line = self._written_line(frame, at)
        if word == "":
            return self._take(line)
        self._direct(word, at, self._reader.operands_of_line(line))
        return None

    def _written_line(self, frame, at):
        """A reached line behind all that is written into it."""
        line = self._reader.bare_line(frame.lines[at])
        # Lines of bodies were looked at when they were defined; arguments may have brought made names since.
        if frame.call_number == 0:
            check_own_names(line)
        line = numbered(self._reader.substituted(line, self._variables), frame.call_number)
        check_lengths((line,))
        return line

    def _take(self, line):
        """Go on with a line that is no directive; the plain line that it gives, or None."""
        label, word, behind = self._reader.head_of_line(line)
        if word in DIRECTIVES:
            raise BadCall(word)
        if word not in self._macros or not _is_call(label, line[behind:]):
            return None if line.strip(" ") == "" else self._plain(line.strip(" "))
        self._waiting = (word, line)
        return None if label == "" else self._plain(label + ":")

    def _plain(self, text):
        if self._many_plain == MOST_PLAIN_LINES:
            raise TooLarge(MOST_PLAIN_LINES)
        self._many_plain += 1
        return text, self._origin()

    def _origin(self):
        return Origin.inside(self._here[0], self._here[1])

    def _direct(self, word, at, operands):
        if word == "set":
            name, value = setting(operands, self._reader, self._variables)
            self._set(name, value)
        elif word == "repeat":
            self._begin_repeat(at, operands)
        elif not self._holds(word, operands):
            frame = self._frames[-1]
            frame.at = frame.plan.targets[at]

    def _holds(self, word, operands):
        return sameness(operands) if word == "ifsame" else condition(operands, self._reader, self._variables)

    def _begin_repeat(self, at, operands):
        many, counter = repeating(operands, self._reader, self._variables)
        frame = self._frames[-1]
        stop = frame.plan.targets[at]
        frame.at = stop + 1
        if many > 0:
            self._check_open()
            inner = frame.repeated(Rounds(many, counter, at + 1), stop, self._here)
            self._frames.append(inner)
            self._begin_round(inner)

    def _begin_round(self, frame):
        self._here = frame.opened
        self._count_steps(1)
        rounds = frame.rounds
        if rounds.counter is not None:
            self._set(rounds.counter, rounds.done)
        rounds.done += 1
        frame.at = rounds.begin

    def _begin_call(self):
        word, line = self._waiting
        self._waiting = None
        macro = self._macros[word]
        operands = self._reader.operands_of_line(line)
        arguments = macro.arguments(operands)
        call = Call(word, arguments, dict(self._variables))
        ring = self._calls.ring_with(call)
        if ring != ():
            raise Ring(ring)
        self._check_open()
        self._count_steps(1)
        self._calls_begun += 1
        self._note_call(word)
        self._push_call(call, macro, macro.written(operands, arguments, self._calls_begun))

    def _push_call(self, call, macro, lines):
        source, line = macro.place
        frame = Frame(lines, macro.plan_of_body(), (source, line + 1), self._here)
        frame.is_call = True
        frame.call_number = self._calls_begun
        for at, text in enumerate(lines):
            if len(text) > MOST_IN_LINE:
                self._here = frame.here_at(at)
                raise TooLarge(MOST_IN_LINE)
        self._frames.append(frame)
        self._calls.push(call)

    def _note_call(self, word):
        """Called for each call that begins, for what a class below counts."""

    def _check_open(self):
        if len(self._frames) > MOST_OPEN:
            raise TooLarge(MOST_OPEN)

    def _count_steps(self, many):
        if self._steps_done + many > MOST_STEPS:
            raise TooLarge(MOST_STEPS)
        self._steps_done = self._steps_done + many

    def _set(self, name, value):
        if name not in self._variables and len(self._variables) == MOST_VARIABLES:
            raise TooLarge(MOST_VARIABLES)
        self._variables[name] = value


class CountingExpander(Expander):
    """An Expander that counts the calls of each macro."""

    def __init__(self, text, *, source="text", library=None):
        super().__init__(text, source=source, library=library)
        self._counted = {}

    def counts(self):
        """A dict from the names of called macros to the numbers of their calls."""
        return dict(self._counted)

    def copy(self):
        """A CountingExpander that goes on from here by itself."""
        twin = CountingExpander("")
        self._give_state(twin)
        twin._counted = dict(self._counted)
        return twin

    def _note_call(self, word):
        self._counted[word] = self._counted.get(word, 0) + 1


def expanded(text, *, source="text", library=None):
    """The tuple of all plain lines of a text."""
    expander = Expander(text, source=source, library=library)
    return tuple(expander.rest())


def _is_call(label, behind):
    """Whether a line calls the macro of its word, by its label and by what stands behind that word."""
    # A path or a made name reaches further than the word, which is no operation then.
    is_longer = row_end(behind, 0, BARRED_BEHIND, 1) > 0 or behind.startswith(".") and not behind.startswith("..")
    sign = behind.lstrip(" ")[:2]
    is_equation = label == "" and sign.startswith("=") and sign != "=="
    return not is_longer and not is_equation


def _checked_library(library):
    if library is None:
        return {}
    if not isinstance(library, dict):
        raise BadCall(library)
    for name, macro in library.items():
        if not isinstance(macro, Macro) or name != macro.macro_name:
            raise BadCall(library)
    return dict(library)
