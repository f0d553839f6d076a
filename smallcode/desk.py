"""The desk: takes a list of calls on one new object and gives back what they answer."""

from smallcode.holder import Holder

CODE = 0
OUTS = 1
SMALL = 2
MAP = 3
COUNTS = 4
ALIKE = 5
TAKE = 6
LINES = 7
RUN = 8


class UnknownCall(ValueError):
    """A call's number that isn't any call's."""


class Reader:
    """Goes through the list of calls number by number."""

    def __init__(self, numbers):
        self.numbers = numbers
        self.at = 0

    def is_done(self):
        """Whether nothing is left."""
        return self.at >= len(self.numbers)

    def take_number(self):
        """The next number."""
        self.at += 1
        return self.numbers[self.at - 1]

    def take_row(self):
        """The next row, which has its length before it."""
        length = self.take_number()
        self.at += length
        return self.numbers[self.at - length:self.at]


def answer_next(holder, reader):
    """What the next call answers."""
    call = reader.take_number()
    if call == CODE:
        inputs = reader.take_number()
        return holder.hold_code(inputs, reader.take_row())
    if call == OUTS:
        return holder.hold_outs(reader.take_row())
    if call == SMALL:
        return holder.tell_small(reader.take_number())
    if call == MAP:
        return holder.tell_map(reader.take_number())
    if call == COUNTS:
        return holder.tell_counts(reader.take_number())
    if call == ALIKE:
        mode = reader.take_number()
        first = reader.take_number()
        return holder.tell_alike(mode, first, reader.take_number())
    if call == TAKE:
        return holder.hold_made(reader.take_number())
    if call == LINES:
        return holder.tell_lines()
    if call == RUN:
        return holder.tell_run(reader.take_row())
    raise UnknownCall(f"no call has the number {call}")


def answers(calls):
    """For each call, in order: how many numbers it answers, then these."""
    holder = Holder()
    reader = Reader(calls)
    given = []
    while not reader.is_done():
        answer = answer_next(holder, reader)
        given.append(len(answer))
        given.extend(answer)
    return given
