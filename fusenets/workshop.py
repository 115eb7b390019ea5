"""The workshop: nets and lights that several users edit, each with undo and redo."""

from fusenets.actions import after_action, copied
from fusenets.errors import Blocked, InvalidAction, InvalidName, LimitExceeded, NetError, NothingToUndo, UnknownName
from fusenets.fires import Fire
from fusenets.nets import is_word


def check_user(value):
    """Raises InvalidName unless any value is a user."""
    if not is_word(value):
        raise InvalidName(value)


def known(nets, name):
    """The net with a name and its lights."""
    if not isinstance(name, str) or name not in nets:
        raise UnknownName(name)
    return nets[name]


def end_of(net, lights):
    """The end of the fire of a net, or None without lights."""
    if not lights:
        return None
    return Fire(net, lights).end()


class Workshop:
    """Nets and lights, always those to which the actions of the log lead in an empty workshop."""

    def __init__(self):
        self._made = []
        self._states = [{}]
        self._undone = {}

    def _make(self, user, action):
        """Makes an action at the last place of the log."""
        self._states.append(after_action(self._states[-1], action))
        self._made.append((user, copied(action)))

    def act(self, user, action):
        """Makes an action."""
        check_user(user)
        self._make(user, action)
        self._undone[user] = []

    def undo(self, user):
        """Removes the last action of a user from the log, and returns it."""
        check_user(user)
        places = [index for index, (maker, _) in enumerate(self._made) if maker == user]
        if not places:
            raise NothingToUndo(user)
        index = places[-1]
        self._states = self._states_without(index)
        action = self._made.pop(index)[1]
        self._undone[user] = self._undone.get(user, []) + [action]
        return copied(action)

    def _states_without(self, index):
        """The states to which the log leads, one after another, without one of its actions."""
        states = self._states[:index + 1]
        for place in range(index + 1, len(self._made)):
            try:
                states.append(after_action(states[-1], self._made[place][1]))
            except (NetError, LimitExceeded, UnknownName):
                raise Blocked(place)
        return states

    def redo(self, user):
        """Makes the action that a user undid last and that is not made again, and returns it."""
        check_user(user)
        waiting = self._undone.get(user, [])
        if not waiting:
            raise NothingToUndo(user)
        self._make(user, waiting[-1])
        self._undone[user] = waiting[:-1]
        return copied(waiting[-1])

    def log(self):
        """A list of the tuples (user, action) that were made and are not undone."""
        return [(user, copied(action)) for user, action in self._made]

    def names(self):
        """The sorted list of the names of the nets."""
        return sorted([str(name) for name in self._states[-1]])

    def net_of(self, name):
        """The net with a name."""
        return known(self._states[-1], name)[0]

    def lights_of(self, name):
        """The list of the lights of a net, with points as they are returned."""
        return list(known(self._states[-1], name)[1])

    def fire_of(self, name):
        """The fire of a net, or None without lights."""
        net, lights = known(self._states[-1], name)
        if not lights:
            return None
        return Fire(net, lights)

    def __contains__(self, value):
        return isinstance(value, str) and value in self._states[-1]

    def __len__(self):
        return len(self._states[-1])

    def preview(self, actions, name):
        """The end of the fire of a net, None without lights, after a list of actions that are not made."""
        if not isinstance(actions, list):
            raise InvalidAction(actions)
        nets = self._states[-1]
        for action in actions:
            nets = after_action(nets, action)
        net, lights = known(nets, name)
        return end_of(net, lights)
