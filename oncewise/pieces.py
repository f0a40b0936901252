"""Pieces of places: at the start each place by itself, then united."""


class Pieces:
    def __init__(self, count):
        self.heads = list(range(count))

    def head_of(self, place):
        here = place
        while self.heads[here] != here:
            # Each look makes the way shorter, so that no later one is long.
            self.heads[here] = self.heads[self.heads[here]]
            here = self.heads[here]
        return here

    # False where the two lay in one piece already.
    def unite(self, p, q):
        first = self.head_of(p)
        second = self.head_of(q)
        self.heads[first] = second
        return first != second
