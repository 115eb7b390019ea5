"""Measuring: which times can be told by fuses that burn for a known time each.

Inside, all numbers are whole. A state is a tuple (time, rests) as in the document; a choice
is a list with the number of ends to light for each timer.
"""

from fusenets.errors import InvalidLengths, InvalidNumber
from fusenets.nets import is_index
from fusenets.ratios import Ratio, common_bottom, is_number, is_positive, whole
from fusenets.rules import is_row

MOST_TIMERS = 3
ENDS = 2


def check_timers(value):
    """Raises InvalidLengths unless any value is a list of timers."""
    if not isinstance(value, list) or not 1 <= len(value) <= MOST_TIMERS:
        raise InvalidLengths(value)
    if not all([is_positive(length) for length in value]):
        raise InvalidLengths(value)


def fine_scale(timers):
    """What makes all numbers of possible states whole.

    Each moment behind the start may halve them, and there are at most as many as timers.
    """
    scale = common_bottom(timers)
    for _ in timers:
        scale = scale * ENDS
    return scale


def start_of(timers, scale):
    """The state at the start, in whole numbers."""
    return 0, tuple([(whole(length, scale), 0) for length in timers])


def unlit_ends(timer):
    """How many ends of a timer, a tuple (rest, lit), can be lit."""
    rest, lit = timer
    if rest == 0:
        return 0
    return ENDS - lit


def choices(rests):
    """All choices of ends to light, none among them."""
    rows = [[]]
    for timer in rests:
        rows = [row + [number] for row in rows for number in range(unlit_ends(timer) + 1)]
    return rows


def later(timer, span):
    """A timer, a tuple (rest, lit), when it has burnt on for a span."""
    rest, lit = timer
    if rest == lit * span:
        return 0, 0
    return rest - lit * span, lit


def next_state(state, choice):
    """The state at the next moment after ends are lit, or None if no end burns."""
    time, rests = state
    timers = [(rest, lit + number) for (rest, lit), number in zip(rests, choice)]
    spans = [rest // lit for rest, lit in timers if lit > 0]
    if not spans:
        return None
    span = min([int(length) for length in spans])
    return time + span, tuple([later(timer, span) for timer in timers])


def followers(state):
    """The states that can follow a state next."""
    found = [next_state(state, choice) for choice in choices(state[1])]
    return [after for after in found if after is not None]


class Search:
    """All possible states, each with a plan for it that lights as few ends as possible."""

    def __init__(self, timers):
        check_timers(timers)
        self.scale = fine_scale(timers)
        start = start_of(timers, self.scale)
        self.plans = {start: []}
        self.costs = {start: 0}
        waiting = [start]
        while waiting:
            state = waiting.pop()
            for choice in choices(state[1]):
                after = next_state(state, choice)
                if after is not None and self.is_better(state, choice, after):
                    waiting.append(after)

    def is_better(self, state, choice, after):
        """Whether a state is new or comes with fewer lit ends; then keeps the plan."""
        cost = self.costs[state] + sum(choice)
        if after in self.costs and self.costs[after] <= cost:
            return False
        self.costs[after] = cost
        self.plans[after] = self.plans[state] + [choice]
        return True

    def told(self, number):
        """A whole number as it is returned."""
        return Ratio(number, self.scale)

    def state_told(self, state):
        """A state as it is returned."""
        time, rests = state
        return self.told(time), tuple([(self.told(rest), lit) for rest, lit in rests])


def states(timers):
    """A list of all possible states, each once, the start included."""
    search = Search(timers)
    return [search.state_told(state) for state in search.costs]


def measurable(timers):
    """The ascending list of all times above 0 of possible states."""
    search = Search(timers)
    times = {time: True for time, _ in search.costs if time > 0}
    return [search.told(time) for time in sorted([int(time) for time in times])]


def step_of(choice):
    """The step of a plan that lights the ends of a choice."""
    step = []
    for timer, number in enumerate(choice):
        step.extend([timer] * number)
    return step


def plan(timers, time):
    """A plan with this time that lights as few ends as possible, or None."""
    search = Search(timers)
    if not is_number(time):
        raise InvalidNumber(time)
    best = None
    for state in search.costs:
        if search.plans[state] and search.told(state[0]) == time:
            if best is None or search.costs[state] < search.costs[best]:
                best = state
    if best is None:
        return None
    return [step_of(choice) for choice in search.plans[best]]


def is_step(value, number):
    """Whether any value is an ascending list of indexes of so many timers."""
    if not isinstance(value, list) or not all([is_index(timer, number) for timer in value]):
        return False
    return all([one <= other for one, other in zip(value, value[1:])])


def choice_of(rests, step):
    """The choice for a step of a plan, or None if it cannot be made."""
    if not is_step(step, len(rests)):
        return None
    choice = [step.count(timer) for timer in range(len(rests))]
    if not all([number <= unlit_ends(timer) for number, timer in zip(choice, rests)]):
        return None
    return choice


def plan_time(timers, value):
    """The time of a plan, or None if any value is not a plan."""
    check_timers(timers)
    if not isinstance(value, list) or len(value) == 0:
        return None
    scale = fine_scale(timers)
    state = start_of(timers, scale)
    for step in value:
        choice = choice_of(state[1], step)
        if choice is None:
            return None
        state = next_state(state, choice)
        if state is None:
            return None
    return Ratio(state[0], scale)


def is_timer(value):
    """Whether any value is a tuple (rest, lit) as a state has it."""
    if not is_row(value, 2):
        return False
    rest, lit = value
    if not is_number(rest) or not is_index(lit, ENDS + 1):
        return False
    return rest > 0 or rest == 0 and lit == 0


def is_state(value, number):
    """Whether any value is a tuple (time, rests) for so many timers."""
    if not is_row(value, 2) or not is_number(value[0]):
        return False
    return is_row(value[1], number) and all([is_timer(timer) for timer in value[1]])


def whole_state(state, scale):
    """A state in whole numbers."""
    time, rests = state
    return whole(time, scale), tuple([(whole(rest, scale), lit) for rest, lit in rests])


def is_closed(timers, value):
    """Whether any value is a list with the start and, for each of its states, all that can follow next."""
    check_timers(timers)
    if not isinstance(value, list) or not all([is_state(state, len(timers)) for state in value]):
        return False
    numbers = timers + [state[0] for state in value] + [rest for state in value for rest, _ in state[1]]
    # A timer that burns at both ends needs half its rest.
    scale = ENDS * common_bottom(numbers)
    known = {whole_state(state, scale): True for state in value}
    if start_of(timers, scale) not in known:
        return False
    for state in known:
        if not all([after in known for after in followers(state)]):
            return False
    return True
