"""Runs: what the machine does with rows, from a start of a rule on."""

from paperrows.errors import NoNumber, NoStart
from paperrows.kinds import is_between
from paperrows.rows import look_rows
from paperrows.rules import areas_at, is_start, look_rule, may_read, may_write

MOST_BUDGET = 20000


class Run:
    """How a run of rows went, and how it left the registers and the memory."""

    def __init__(self, word, row, registers, memory, steps):
        self.word = word
        self.row = row
        self.registers = tuple(registers)
        self.steps = steps
        self._memory = dict(memory)

    def __eq__(self, other):
        if not isinstance(other, Run):
            return False
        if (self.word, self.row, self.steps) != (other.word, other.row, other.steps):
            return False
        return self.registers == other.registers and self._memory == other._memory

    def __str__(self):
        return f"{self.word} {self.row} {self.steps}"

    def memory(self):
        """Tell what the memory holds: the start's places, and those written."""
        return dict(self._memory)


class Machine:
    """Rows that are being done: the row that comes next, the worths it finds, and how many rows were done."""

    def __init__(self, rows, areas, p, held):
        self.rows = rows
        self.areas = areas
        self.registers = [*p, 0, 0, 0]
        self.held = held
        self.at = 0
        self.steps = 0

    def is_forbidden(self):
        """Tell whether the row that comes next reads or writes what is forbidden."""
        row = self.rows[self.at]
        if row[0] == "read":
            return not may_read(self.areas, row[4], self._place(row[2], row[3]))
        if row[0] == "write":
            return not may_write(self.areas, row[4], self._place(row[1], row[2]), self.registers[row[3]])
        return False

    def do_row(self):
        """Do the row that comes next, which is no stop and not forbidden."""
        row = self.rows[self.at]
        if row[0] == "write":
            self.held[self._place(row[1], row[2])] = self.registers[row[3]]
        elif row[0] == "read":
            self.registers[row[1]] = self.held.get(self._place(row[2], row[3]), 0)
        elif row[0] not in ("jump", "below", "same"):
            self.registers[row[1]] = _reckoned(row, self.registers)
        self.at = _next_place(row, self.at, self.registers)
        self.steps += 1

    def _place(self, one, further):
        return self.registers[one] + further


def run(rows, rule, p, *, memory=(), budget=1000):
    """Do rows from a start on, and tell how that went."""
    machine = _begun(rows, rule, p, memory, budget)
    word = _end_word(machine, budget)
    while word is None:
        machine.do_row()
        word = _end_word(machine, budget)
    # A stop is a row that is done, though nothing of the machine is changed by it.
    steps = machine.steps + 1 if word == "stopped" else machine.steps
    return Run(word, machine.at, machine.registers, machine.held, steps)


def way(rows, rule, p, *, memory=(), budget=1000):
    """Tell by which rows a run goes, and what the registers hold ahead of each one."""
    machine = _begun(rows, rule, p, memory, budget)
    told = [(machine.at, tuple(machine.registers))]
    while _end_word(machine, budget) is None:
        machine.do_row()
        told.append((machine.at, tuple(machine.registers)))
    return told


def begun_memory(rule, p, memory, budget):
    """Tell the memory that a start hands in, as a dict of its own; refuse a wrong rule, start or budget."""
    look_rule(rule)
    # No memory at all is told by ().
    held = {} if isinstance(memory, tuple) and len(memory) == 0 else memory
    if not is_start(rule, p, held):
        raise NoStart("no start of the rule")
    if not is_between(budget, 0, MOST_BUDGET):
        raise NoNumber("no budget from 0 to 20000")
    return dict(held)


def _begun(rows, rule, p, memory, budget):
    look_rows(rows)
    held = begun_memory(rule, p, memory, budget)
    return Machine(rows, areas_at(rule, p), p, held)


def _end_word(machine, budget):
    """Tell the word of a run that ends where the machine is now, None if it goes on."""
    if machine.steps == budget:
        return "open"
    if machine.is_forbidden():
        return "forbidden"
    return "stopped" if machine.rows[machine.at][0] == "stop" else None


def _reckoned(row, registers):
    """Tell what the register that a row sets becomes."""
    word, first, last = row[0], row[2], row[-1]
    if word == "set":
        return first
    if word == "copy":
        return registers[first]
    if word == "plus":
        return registers[first] + registers[last]
    if word == "minus":
        return registers[first] - registers[last]
    if word == "more":
        return registers[first] + last
    return registers[first] * last


def _next_place(row, at, registers):
    word = row[0]
    if word == "jump":
        return row[1]
    if word == "below" and registers[row[1]] < registers[row[2]]:
        return row[3]
    if word == "same" and registers[row[1]] == registers[row[2]]:
        return row[3]
    return at + 1
