"""Rows of sets that grow from the back to the front; no part of the interface. Nothing here refuses."""

from boastrow.levels import levelled, stretch_to


class Growth:
    """The steps of the row as it stands: where each begins, and beside it how many speak truly from there on.

    Two lists side by side, as whoever steps in front raises whole pieces of the one and leaves those of the other.
    """

    def __init__(self):
        self.starts = [0]
        self.manies = [0]

    def reach(self, wish):
        """The least company by which the total is at least the wish, and how many steps begin ahead of it."""
        low = 0
        high = len(self.starts)
        while low < high:
            middle = (low + high) // 2
            if self.starts[middle] + self.manies[middle] < wish:
                low = middle + 1
            else:
                high = middle
        if low == 0:
            return (0, 0)
        c = wish - self.manies[low - 1]
        if low < len(self.starts):
            c = min(c, self.starts[low])
        return (c, low)

    def cuts_for(self, said):
        """Where what comes begins to be a number of the stretches, and where it ends to be one, by turns."""
        cuts = []
        for first, last in said:
            begin = self.reach(first)
            end = None if last is None else self.reach(last + 1)
            if end is not None and end[0] <= begin[0]:
                continue
            # What is between two stretches may be totals that never come.
            if cuts and cuts[-1] == begin:
                cuts.pop()
            else:
                cuts.append(begin)
            if end is not None:
                cuts.append(end)
        return cuts

    def lift(self, cuts):
        """One more from the first cut on, as many as ahead from the second one on, and so on."""
        starts = []
        manies = []
        at = 0
        more = 0
        # The last cut is the end of all, at which nothing begins any more.
        for c, index in cuts + [(None, len(self.starts))]:
            starts += self.starts[at:index]
            piece = self.manies[at:index]
            manies += [many + 1 for many in piece] if more else piece
            at = index
            more = 1 - more
            if c is not None and (at == len(self.starts) or self.starts[at] > c):
                starts.append(c)
                manies.append(self.manies[at - 1] + more)
        self.starts = starts
        self.manies = manies

    def step_in(self, said):
        """Somebody steps in front who says a number of these stretches; told is by which companies that is true."""
        cuts = self.cuts_for(said)
        self.lift(cuts)
        out = []
        for at in range(0, len(cuts), 2):
            beyond = cuts[at + 1][0] if at + 1 < len(cuts) else None
            out.append(stretch_to(cuts[at][0], beyond))
        return out

    def table(self):
        """The table of the row."""
        return levelled(list(zip(self.starts, self.manies)))
