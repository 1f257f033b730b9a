"""All states that come about by the steps of a walker, and the shortest ways to them."""

ALL_KINDS = 15


class Trails:
    """What comes about with events of certain kinds (a sum of kinds, see walker).

    `found` has, for each harm that is met, the first state and label by which it is; `ways` has the state and
    label by which each state is come to first. If harms are wanted, the search ends when one of them is found.
    """

    def __init__(self, walker, kinds, wanted=()):
        self.walker = walker
        self.wanted = wanted
        self.has_wanted = False
        self.ways = {}
        self.found = {}
        queue = []
        for state, start in walker.beginnings():
            if state not in self.ways:
                self.ways[state] = (None, start)
                queue.append(state)
        at = 0
        while at < len(queue) and not self.has_wanted:
            state = queue[at]
            at += 1
            self._look(state, kinds, queue)

    def _look(self, state, kinds, queue):
        for label, used, harms, behind, _ in self.walker.steps(state):
            if used & kinds == used:
                for harm in harms:
                    self.found.setdefault(harm, (state, label))
                    if harm in self.wanted:
                        self.has_wanted = True
                if behind is not None and behind not in self.ways:
                    self.ways[behind] = (state, label)
                    queue.append(behind)

    def story(self, harm):
        """Returns the history by which a harm was found: (start, edition, events)."""
        state, label = self.found[harm]
        labels = [label]
        while self.ways[state][0] is not None:
            state, label = self.ways[state]
            labels.append(label)
        start, edition = self.ways[state][1]
        return (start, edition, _events(labels[::-1]))


def _events(labels):
    """Returns the events with these labels; a late deed gets the number under which it came to be pending."""
    pending, late, events = 0, 0, []
    for event, is_pending, is_late in labels:
        if is_late:
            late = pending
        if is_pending:
            pending += 1
        events.append(f"late {late}" if event == "late" else event)
    return tuple(events)
