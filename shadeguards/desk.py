"""A desk: it executes commands on a cycle."""

from shadeguards.answers import answer_to
from shadeguards.commands import read_command
from shadeguards.countingcycles import cycle_for


class Desk:
    """A cycle of a scanning, and the commands that change it or tell something of it."""

    def __init__(self, *, scanning="whole"):
        self._scanning = scanning
        self._cycle = cycle_for(scanning, (1, ()), (None,))

    def execute(self, command):
        """Execute the command, any value, and return the answer."""
        name, asked = read_command(command, self._scanning)
        cycle = self._cycle
        if name == "begin":
            heap, registers = asked
            self._cycle = cycle_for(self._scanning, heap, registers, table=cycle.table)
            return "ok"
        return answer_to(name, cycle, asked)
