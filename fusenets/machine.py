"""Machines: nets that are lit, and watched by rules that act on them while they burn."""

from fusenets.engine import Engine
from fusenets.errors import InvalidLights, InvalidPoint, InvalidProgram
from fusenets.fires import MOST_LIGHTS, is_light
from fusenets.programs import MOST_RULES, is_rule, made_rule
from fusenets.ratios import Ratio, as_ratio, is_integer, is_number
from fusenets.settings import Setting, are_marks


def check_spot_lights(setting, value):
    """Raises InvalidLights unless any value is a list of lights at spots."""
    if not isinstance(value, list) or not 1 <= len(value) <= MOST_LIGHTS:
        raise InvalidLights(None)
    for index, light in enumerate(value):
        if not is_light(setting.lit_net, light) or setting.spot_of(light[0]) is None:
            raise InvalidLights(index)


def check_program(setting, value):
    """Raises InvalidProgram unless any value is a list of rules."""
    if not isinstance(value, list) or len(value) > MOST_RULES:
        raise InvalidProgram(None)
    for index, rule in enumerate(value):
        if not is_rule(setting, rule):
            raise InvalidProgram(index)


def is_same(told, value):
    """Whether any value is what is told; integers may stand for Ratios, but not the other way round."""
    if isinstance(told, Ratio):
        return is_number(value) and value == told
    if isinstance(told, (list, tuple)):
        return isinstance(value, (list, tuple)) and is_same_row(told, value)
    if told is None:
        return value is None
    if isinstance(told, str):
        return isinstance(value, str) and value == told
    return is_integer(value) and value == told


def is_same_row(told, value):
    """Whether a list or tuple is what is told."""
    if isinstance(told, list) != isinstance(value, list) or len(told) != len(value):
        return False
    return all([is_same(one, other) for one, other in zip(told, value)])


class Machine:
    """A net with marks, lights and rules."""

    def __init__(self, net, marks, lights, rules):
        if not are_marks(net, marks):
            raise InvalidPoint(marks)
        self._setting = Setting(net, marks)
        check_spot_lights(self._setting, lights)
        check_program(self._setting, rules)
        self._lit_at = [(self._setting.spot_of(point), as_ratio(time)) for point, time in lights]
        self._program = [made_rule(self._setting, rule) for rule in rules]
        self._ended = None

    def __eq__(self, other):
        if not isinstance(other, Machine):
            return False
        return self._setting == other._setting and self._lit_at == other._lit_at and self._program == other._program

    def engine(self):
        """A run of the machine that has not begun."""
        return Engine(self._setting, self._lit_at, self._program)

    def _whole_run(self):
        """The run of the machine, at its end."""
        if self._ended is None:
            engine = self.engine()
            while not engine.is_done():
                engine.go_on()
            self._ended = engine
        return self._ended

    def log(self):
        """The log of the run, a list of (time, kind, what, cause)."""
        return list(self._whole_run().rows)

    def times(self):
        """A dict from all nodes to their times at the end of the run, as far as it went."""
        burnt_at = self._whole_run().blaze.burnt_at
        return {node: burnt_at.get(self._setting.spot_of(node)) for node in self._setting.lit_net.nodes}

    def variables(self):
        """A dict from the names that were given a value to their values, in ascending order."""
        names = self._whole_run().bound
        return {name: names[name] for name in sorted([str(name) for name in names])}

    def is_rule(self, value):
        """Whether any value is a rule that a machine with this net and these marks can have."""
        return is_rule(self._setting, value)

    def is_log(self, value):
        """Whether any value is the log; integers may stand for Ratios."""
        return is_same(self.log(), value)
