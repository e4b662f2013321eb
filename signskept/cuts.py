"""Where widenings by one mark are cheapest, and flows that show that nothing is cheaper."""

from signskept.costs import are_frequencies, spot_costs
from signskept.dresses import check_mark
from signskept.errors import BadFlow, BadFrequencies
from signskept.nets import least_cut
from signskept.programs import check_program
from signskept.puts import check_puts
from signskept.wants import check_simple
from signskept.ways import Ways, add_program, flow_total


def cost_of(program, puts, frequencies=None):
    """What all of some puts cost together."""
    check_program(program)
    check_puts(program, puts)
    _check_frequencies(program, frequencies)
    costs = spot_costs(program, frequencies)
    return sum([costs[spot] for spot, _ in puts])


def flow_sum(program, mark, flow, frequencies=None):
    """The sum of the amounts of a flow."""
    total = flow_total(_checked_ways(program, mark, frequencies), flow)
    if total is None:
        raise BadFlow(flow)
    return total


def _check_frequencies(program, thing):
    """Refuse what is neither None nor a dict of frequencies of goes."""
    if not are_frequencies(program, thing):
        raise BadFrequencies(thing)


def _checked_ways(program, mark, frequencies):
    """The Ways of a program by a mark; what is no program, mark or frequencies for it is refused."""
    check_program(program)
    check_mark(mark)
    _check_frequencies(program, frequencies)
    check_simple(program, mark)
    ways = Ways()
    add_program(ways, (), program, mark, spot_costs(program, frequencies))
    return ways


class Cheapest:
    """Puts by one mark that serve, of which none that serve cost less, and a flow that shows it."""

    def __init__(self, program, mark, frequencies=None):
        puts, _, flow = least_cut(_checked_ways(program, mark, frequencies))
        self._puts = puts
        self._flow = flow

    @property
    def puts(self):
        """The puts, ascending."""
        return list(self._puts)

    @property
    def cost(self):
        """What they cost together."""
        return sum([amount for amount, _ in self._flow])

    @property
    def flow(self):
        """A flow whose sum is the cost."""
        return list(self._flow)
