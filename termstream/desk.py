"""A desk: it keeps a net and its plan, is told lines, and answers them by texts."""

from termstream.building import net_of, put_row
from termstream.comparing import compare
from termstream.digits import digits, digits_text
from termstream.errors import NoLine, NoStream
from termstream.fractions import fraction_text
from termstream.machines import Machine
from termstream.nets import Net
from termstream.plans import SHAPES, plan_text, read_line, read_plan
from termstream.rooted import Rooted
from termstream.settling import neighbours_of
from termstream.sources import Fed
from termstream.twos import Two
from termstream.words import is_name, number_of

# What stands behind the first word of a line that is no plan's, and not `load`.
BEHIND = {
    "plan": (),
    "names": (),
    "counts": (),
    "undo": (),
    "feed": ("name", "number"),
    "finish": ("name",),
    "ask": ("name", "number"),
    "read": ("name", "number"),
    "bounds": ("name",),
    "near": ("name", "number"),
    "digits": ("name", "number", "number"),
    "parts": ("name",),
    "compare": ("name", "name", "number"),
}


def words_of(line):
    """The words of the line; refuses what is no text of words with one blank between any two."""
    if not isinstance(line, str):
        raise NoLine(line)
    words = line.split(" ")
    if not all([word != "" and "\n" not in word for word in words]):
        raise NoLine(line)
    return words


def thing_of(kind, word):
    """The name or the number that the word is, or None."""
    if kind == "name":
        return word if is_name(word) else None
    return number_of(word)


def things_of(line, words):
    """What stands behind the first word; refuses the line where it isn't what has to stand there."""
    if words[0] not in BEHIND or len(words) != 1 + len(BEHIND[words[0]]):
        raise NoLine(line)
    things = [thing_of(kind, word) for kind, word in zip(BEHIND[words[0]], words[1:])]
    if not all([thing is not None for thing in things]):
        raise NoLine(line)
    return things


def text_of(thing):
    """One thing of an answer as a text."""
    if thing is None:
        return "nothing"
    return fraction_text(thing) if isinstance(thing, tuple) else str(thing)


def answer_of(things):
    """The text of an answer that has these things."""
    return " ".join([text_of(thing) for thing in things]) or "nothing"


def with_bounds(told):
    """What is told, two bounds that are None as one thing."""
    word, *rest = told
    return [word, None] if rest == [None, None] else [word, *rest]


def answer_names(net):
    return net.names()


def answer_counts(net):
    return [thing for name, many in net.counts().items() for thing in (name, many)]


def fed_stream(net, name):
    """The Fed of the name; refuses the name of another stream."""
    stream = net.stream(name)
    if not isinstance(stream, Fed):
        raise NoStream(name)
    return stream


def answer_feed(net, name, term):
    stream = fed_stream(net, name)
    stream.feed(term)
    return [stream.length()]


def answer_finish(net, name):
    stream = fed_stream(net, name)
    stream.finish()
    return [stream.length()]


def answer_ask(net, name, place):
    return with_bounds(net.ask(name, place))


def answer_read(net, name, many):
    terms, word = net.read(name, many)
    return [*terms, word]


def answer_bounds(net, name):
    low, high = net.stream(name).bounds()
    return [None] if low is None else [low, high]


def answer_near(net, name, bound):
    return with_bounds(neighbours_of(net.stream(name), bound))


def answer_digits(net, name, many, base):
    word, found = digits(net.stream(name), many, base)
    return [word, digits_text(found, base) if found else None]


def answer_parts(net, name):
    stream = net.stream(name)
    if not isinstance(stream, (Machine, Rooted)):
        raise NoStream(name)
    found = stream.parts()
    if found is None:
        return [None]
    if isinstance(stream, Two):
        return [*found[0], "/", *found[1]]
    return list(found)


def answer_compare(net, one, other, most):
    return list(compare(net.stream(one), net.stream(other), most))


# Each tells the things of the answer to a line, and looks up its names ahead of all else.
ANSWERS = {
    "names": answer_names,
    "counts": answer_counts,
    "feed": answer_feed,
    "finish": answer_finish,
    "ask": answer_ask,
    "read": answer_read,
    "bounds": answer_bounds,
    "near": answer_near,
    "digits": answer_digits,
    "parts": answer_parts,
    "compare": answer_compare,
}


class Desk:
    """A net, and the plan by which it was put together."""

    def __init__(self):
        self._net = Net()
        self._plan = []

    def net(self):
        """The net itself."""
        return self._net

    def plan(self):
        """The plan, a list of its rows."""
        return list(self._plan)

    def say(self, line):
        """Does what the line tells, and answers it."""
        words = words_of(line)
        word = words[0]
        if word in SHAPES:
            return self.put(line)
        if word == "load":
            return self.load(" ".join(words[1:]))
        things = things_of(line, words)
        if word == "plan":
            return plan_text(self._plan).replace("\n", " / ") or "nothing"
        if word == "undo":
            return self.undo()
        action = ANSWERS[word]
        return answer_of(action(self._net, *things))

    def put(self, line):
        """Puts in the row of the line, and answers its name."""
        row = read_line(line)
        if row is None:
            raise NoLine(line)
        put_row(self._net, row)
        self._plan.append(row)
        return row[1]

    def load(self, text):
        """Puts a whole plan in the place of what there is, and answers how many names it has."""
        plan = read_plan(text.replace(" / ", "\n"))
        self._net = net_of(plan)
        self._plan = plan
        return str(len(plan))

    def undo(self):
        """Takes back the last reading or putting in, and answers its two words."""
        told = self._net.undo()
        if told[0] == "put":
            self._plan.pop()
        return answer_of(told)
