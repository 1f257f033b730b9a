"""The second stage (naive) with a memory: what is too old is taken out of it ahead of each event."""

from naive import Naive


class Forgetful:
    """One history. `order` tells for each place the number of closed entries ahead of it, in all logs."""

    def __init__(self, system, memory, start, edition):
        self.naive = Naive(system)
        self.memory = memory
        self.state = self.naive.begin(start, edition)
        self.order = {(0, 0): 0}
        self.tags = system.tags
        self.met = []
        self.many = 0

    def age(self, place):
        if dict(self.state.closed).get(place) is None and place != (self.state.cuts, 0):
            return 0
        return len(self.state.closed) - self.order[place]

    def forget(self):
        if self.memory is None:
            return
        rows = []
        for key, row in self.state.memory:
            place = (row[0], key[0])
            if place not in self.order or self.age(place) <= self.memory:
                rows.append((key, row))
        self.state = self.state._replace(memory=tuple(rows))

    def can(self):
        return [event for event, _ in self.naive.can(self.state)]

    def do(self, event):
        self.forget()
        place, cuts = self.naive.place(self.state), self.state.cuts
        self.order.setdefault(place, len(self.state.closed))
        self.state, met = self.naive.do(self.state, event)
        if self.state.cuts > cuts:
            self.order[(cuts + 1, 0)] = self.order[place]
        self.met += [(self.many, harm) for harm in sorted(met)]
        self.many += 1
        return met
