"""Runs: what the machine does with rows, from a start of a rule on."""

from paperrows.errors import NoNumber, NoStart
from paperrows.kinds import is_between
from paperrows.rows import look_rows
from paperrows.rules import areas_at, is_start, look_rule, may_read, may_write

MOST_BUDGET = 20000


class Run:
    """How a run of rows went, and how it left the registers and the memory."""

    def __init__(self, word, row, registers, memory, steps):
        self.word = word
        self.row = row
        self.registers = tuple(registers)
        self.steps = steps
        self._memory = dict(memory)

    def __eq__(self, other):
        if not isinstance(other, Run):
            return False
        if (self.word, self.row, self.steps) != (other.word, other.row, other.steps):
            return False
        return self.registers == other.registers and self._memory == other._memory

    def __str__(self):
        return f"{self.word} {self.row} {self.steps}"

    def memory(self):
        """Tell what the memory holds: the start's places, and those written."""
        return dict(self._memory)


class Machine:
    """Rows that are being done: the row that comes next, the worths it finds, and how many rows were done."""

    def __init__(self, rows, areas, p, held):
        self.rows = rows
        self.areas = areas
        self.registers = [*p, 0, 0, 0]
        self.held = held
        self.at = 0
        self.steps = 0

    def go(self, budget):
        """Do rows up to a stop, a forbidden row or the end of the budget, and tell which of these it was."""
        registers, at, left = self.registers, self.at, budget - self.steps
        told = "open"
        while left > 0:
            row = self.rows[at]
            word = row[0]
            if word == "read" or word == "write":
                if not self._is_done(row):
                    told = "forbidden"
                    break
            elif word == "below" or word == "same":
                one, other = registers[row[1]], registers[row[2]]
                is_so = one < other if word == "below" else one == other
                if is_so:
                    at = row[3] - 1
            elif word == "jump":
                at = row[1] - 1
            elif word == "stop":
                left -= 1
                told = "stopped"
                break
            else:
                registers[row[1]] = _reckoned(word, row, registers)
            at += 1
            left -= 1
        self.at, self.steps = at, budget - left
        return told

    def _is_done(self, row):
        """Do a read or write and tell True, or tell False where it is forbidden."""
        if row[0] == "read":
            place = self.registers[row[2]] + row[3]
            if not may_read(self.areas, row[4], place):
                return False
            self.registers[row[1]] = self.held.get(place, 0)
            return True
        place, put = self.registers[row[1]] + row[2], self.registers[row[3]]
        if not may_write(self.areas, row[4], place, put):
            return False
        self.held[place] = put
        return True


def run(rows, rule, p, *, memory=(), budget=1000):
    """Do rows from a start on, and tell how that went."""
    machine = _begun(rows, rule, p, memory, budget)
    word = machine.go(budget)
    return Run(word, machine.at, machine.registers, machine.held, machine.steps)


def way(rows, rule, p, *, memory=(), budget=1000):
    """Tell by which rows a run goes, and what the registers hold ahead of each one."""
    machine = _begun(rows, rule, p, memory, budget)
    told = [(machine.at, tuple(machine.registers))]
    # A row at a time: where the run goes on behind it, there is a further place to tell of.
    while machine.steps < budget and machine.go(machine.steps + 1) == "open":
        told.append((machine.at, tuple(machine.registers)))
    return told


def begun_memory(rule, p, memory, budget):
    """Tell the memory that a start hands in, as a dict of its own; refuse a wrong rule, start or budget."""
    look_rule(rule)
    # No memory at all is told by ().
    held = {} if isinstance(memory, tuple) and len(memory) == 0 else memory
    if not is_start(rule, p, held):
        raise NoStart("no start of the rule")
    if not is_between(budget, 0, MOST_BUDGET):
        raise NoNumber("no budget from 0 to 20000")
    return dict(held)


def _begun(rows, rule, p, memory, budget):
    look_rows(rows)
    held = begun_memory(rule, p, memory, budget)
    return Machine(rows, areas_at(rule, p), p, held)


def _reckoned(word, row, registers):
    """Tell what the register that a row sets becomes."""
    if word == "more":
        return registers[row[2]] + row[3]
    if word == "set":
        return row[2]
    if word == "copy":
        return registers[row[2]]
    if word == "plus":
        return registers[row[2]] + registers[row[3]]
    if word == "minus":
        return registers[row[2]] - registers[row[3]]
    return registers[row[2]] * row[3]
