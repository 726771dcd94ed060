"""Houses: each keeps a state and goes on beat by beat, one rule at a time, by the beat machine, or by wires."""

from beatwright.beats import beat
from beatwright.plain import can, do
from beatwright.wires import tick, wired
from beatwright.works import first_words


class House:
    def __init__(self, works, plan):
        self.works = works
        self.plan = plan
        self.state = first_words(works)
        self.turns = 0

    def beat(self, doors):
        done = self.done(doors)
        self.state = done[1]
        self.turns = self.turns + 1
        return done[0]

    # The names taken and the state behind: the one thing in which houses are unlike.
    def done(self, doors):
        for name in self.plan[0]:
            if can(self.works, name, self.state, doors):
                return ([name], do(self.works, name, self.state, doors))
        return ([], self.state)

    def told(self):
        return dict(self.state)


class BeatHouse(House):
    def done(self, doors):
        told = beat(self.works, self.plan, self.state, doors)
        return (told[0], told[2])


class WireHouse(House):
    def __init__(self, works, plan):
        House.__init__(self, works, plan)
        self.wires = wired(works, plan)

    def done(self, doors):
        return tick(self.works, self.wires, self.state, doors)
