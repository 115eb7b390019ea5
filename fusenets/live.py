"""Live nets: nets with lights that are edited, with all their versions, and notices for users."""

from fusenets.edits import after_edit
from fusenets.errors import Blocked, InvalidAction, InvalidName, InvalidNumber, InvalidPoint, NetError
from fusenets.fires import Fire
from fusenets.nets import is_index, is_word


def times_of(net, lights):
    """A dict from all nodes to their times, None without lights."""
    if not lights:
        return {node: None for node in net.nodes}
    return Fire(net, lights).times()


def changes_between(before, after):
    """The list of (node, before, after) of all nodes whose times differ, from two dicts of times."""
    nodes = list(after) + [node for node in before if node not in after]
    rows = [(node, before.get(node), after.get(node)) for node in nodes]
    return [(node, one, other) for node, one, other in rows if one != other]


def check_watch(user, node):
    """Raises InvalidName unless any values are texts of a user and of a node."""
    for value in [user, node]:
        if not is_word(value):
            raise InvalidName(value)


class Live:
    """A net with lights that is edited; each edit makes a new version."""

    def __init__(self, net):
        # A version is a tuple (net, lights, times of the nodes), of which nothing changes.
        self._versions = [(net, [], times_of(net, []))]
        self._watched = {}
        self._waiting = {}

    @property
    def net(self):
        """The net of the last version."""
        return self._versions[-1][0]

    @property
    def lights(self):
        """The list of the lights of the last version, with points as they are returned."""
        return list(self._versions[-1][1])

    def __len__(self):
        return len(self._versions)

    def time(self, node):
        """The time of a node in the last version, or None."""
        net, _, times = self._versions[-1]
        if node not in net:
            raise InvalidPoint(node)
        return times[node]

    def edit(self, action):
        """Makes an edit and returns the list of its changes."""
        net, lights = after_edit(self.net, self.lights, action)
        return self._add((net, lights, times_of(net, lights)))

    def edit_all(self, actions):
        """Makes all edits of a list as one version, or none, and returns the changes."""
        if not isinstance(actions, list):
            raise InvalidAction(actions)
        net, lights = self.net, self.lights
        for index, action in enumerate(actions):
            try:
                net, lights = after_edit(net, lights, action)
            except NetError:
                raise Blocked(index)
        return self._add((net, lights, times_of(net, lights)))

    def revert(self, version):
        """Makes a new version that is equal to one of those that there are, and returns the changes."""
        return self._add(self._version(version))

    def _add(self, version):
        """Adds a version, notes its changes for those who watch, and returns them."""
        number = len(self._versions)
        changes = changes_between(self._versions[-1][2], version[2])
        self._versions.append(version)
        for user in self._watched:
            seen = [(number, node, one, other) for node, one, other in changes if node in self._watched[user]]
            self._waiting[user] = self._waiting.get(user, []) + seen
        return changes

    def _version(self, number):
        """The version with a number."""
        if not is_index(number, len(self._versions)):
            raise InvalidNumber(number)
        return self._versions[number]

    def net_at(self, version):
        """The net of a version."""
        return self._version(version)[0]

    def lights_at(self, version):
        """The list of the lights of a version."""
        return list(self._version(version)[1])

    def fire_at(self, version):
        """The fire of a version, or None without lights."""
        net, lights, _ = self._version(version)
        if not lights:
            return None
        return Fire(net, lights)

    def changes(self, version, other):
        """The changes from a version to another one."""
        return changes_between(self._version(version)[2], self._version(other)[2])

    def watch(self, user, node):
        """Lets a user watch a node, which need not exist yet."""
        check_watch(user, node)
        watched = self._watched.get(user, {})
        self._watched[user] = {**watched, node: True}

    def unwatch(self, user, node):
        """Lets a user cease to watch a node."""
        check_watch(user, node)
        watched = self._watched.get(user, {})
        self._watched[user] = {known: True for known in watched if known != node}

    def notices(self, user):
        """The changes that a user has watched and that were not returned before, as (version, node, before, after)."""
        if not is_word(user):
            raise InvalidName(user)
        found = self._waiting.get(user, [])
        self._waiting[user] = []
        return found
