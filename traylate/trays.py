"""Trays: the settings that wait, and which of them may be carried."""

from traylate.errors import NoKind, NoMove
from traylate.steps import NAMES, is_whole

KINDS = ("row", "name", "none")


class Tray:
    def __init__(self, kind):
        self.kind = kind
        self.turn = 0
        # A queue for each name, of pairs (turn, setting): so a long tray needs no walk to find a name's
        # first or latest setting, and the turns still tell the order of all.
        self.queues = [[] for name in range(NAMES)]

    def add(self, name, number, deed):
        self.queues[name].append((self.turn, (name, number, deed)))
        self.turn += 1

    def latest(self, name):
        queue = self.queues[name]
        return None if len(queue) == 0 else queue[-1][1]

    def fronts(self):
        names = [name for name, queue in enumerate(self.queues) if len(queue) > 0]
        if self.kind == "row" and len(names) > 1:
            return [min(names, key=lambda name: self.queues[name][0][0])]
        return names

    def take(self, name):
        if not is_whole(name) or name not in self.fronts():
            raise NoMove("this name may not be carried")
        return self.queues[name].pop(0)[1]

    def is_empty(self):
        return all([len(queue) == 0 for queue in self.queues])

    def listed(self):
        waiting = []
        for queue in self.queues:
            waiting.extend(queue)
        return [setting[:2] for turn, setting in sorted(waiting)]

    def twin(self):
        other = Tray(self.kind)
        other.turn = self.turn
        other.queues = [list(queue) for queue in self.queues]
        return other


def tray_of(kind):
    if not isinstance(kind, str) or kind not in KINDS:
        raise NoKind("there is no such kind of trays")
    return Tray(kind)
