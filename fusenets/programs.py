"""Programs: the rules of a machine, which values they are, and what a call of one does.

A made rule is a tuple (event, condition, actions) in which spots stand as their indexes.
"""

from fusenets.nets import is_index, is_word
from fusenets.ratios import as_ratio, is_number
from fusenets.rules import is_row, is_valve
from fusenets.terms import Fault, does_hold, is_condition, is_term, value_of

MOST_RULES = 20
MOST_ACTIONS = 10
SIZES = {"light": 3, "send": 3, "cut": 2, "open": 3, "close": 3, "let": 3}


def is_named(value, size):
    """Whether any value is a tuple of this size that begins with a text."""
    return is_row(value, size) and isinstance(value[0], str)


def is_event(setting, value):
    """Whether any value is an event."""
    if not is_named(value, 2):
        return False
    kind, what = value
    if kind == "burn":
        return setting.spot_of(what) is not None
    if kind == "out":
        return is_index(what, len(setting.lit_net))
    if kind == "at":
        return is_number(what)
    return kind == "signal" and is_word(what)


def is_action(setting, value):
    """Whether any value is an action of a rule."""
    if not isinstance(value, tuple) or len(value) == 0 or not isinstance(value[0], str):
        return False
    kind = value[0]
    if kind not in SIZES or len(value) != SIZES[kind]:
        return False
    if kind == "light":
        return setting.spot_of(value[1]) is not None and is_term(value[2])
    if kind == "cut":
        return setting.mark_of(value[1]) is not None
    if kind == "send" or kind == "let":
        return is_word(value[1]) and is_term(value[2])
    return is_valve(setting.lit_net, value[1:])


def is_rule(setting, value):
    """Whether any value is a rule of a machine with this setting."""
    if not is_row(value, 3):
        return False
    event, condition, actions = value
    if not is_event(setting, event) or not is_condition(condition):
        return False
    if not isinstance(actions, list) or len(actions) > MOST_ACTIONS:
        return False
    return all([is_action(setting, action) for action in actions])


def made_event(setting, event):
    """A valid event with the index of its spot."""
    kind, what = event
    if kind == "burn":
        return kind, setting.spot_of(what)
    if kind == "at":
        return kind, as_ratio(what)
    return kind, what


def made_action(setting, action):
    """A valid action with the index of its spot."""
    if action[0] == "light":
        return action[0], setting.spot_of(action[1]), action[2]
    if action[0] == "cut":
        return action[0], setting.spot_of(action[1])
    return action


def made_rule(setting, rule):
    """A valid rule with the indexes of its spots."""
    event, condition, actions = rule
    return made_event(setting, event), condition, [made_action(setting, action) for action in actions]


class Effects:
    """What a call does: variables with values, what is sent with its delay, spots that are cut, and gates."""

    def __init__(self, now, names):
        self.moment = now
        self.bound = {name: names[name] for name in names}
        self.sent = []
        self.stops = []
        self.gates = {}

    def take_in(self, action):
        """Adds what an action does; raises Fault if it cannot be made."""
        kind = action[0]
        if kind == "let":
            self.bound[action[1]] = value_of(action[2], self.moment, self.bound)
        elif kind == "cut":
            self.stops.append(action[1])
        elif kind == "open" or kind == "close":
            self.gates[(action[1], action[2])] = kind == "open"
        else:
            delay = value_of(action[2], self.moment, self.bound)
            if delay < 0:
                raise Fault()
            self.sent.append((kind, action[1], delay))


def effects_of(rule, now, names):
    """The effects of a call of a made rule, or None if its condition does not hold; raises Fault."""
    _, condition, actions = rule
    if not does_hold(condition, now, names):
        return None
    effects = Effects(now, names)
    for action in actions:
        effects.take_in(action)
    return effects
