"""Those of a lot who stand already, the others behind whom more may stand; no part of the interface."""


def many_to(numbers, c):
    """How many of the rising numbers are at most c."""
    low = 0
    high = len(numbers)
    while low < high:
        middle = (low + high) // 2
        if numbers[middle] <= c:
            low = middle + 1
        else:
            high = middle
    return low


class Standing:
    """What those who stand say of the company, as far as it matters to who steps in front of them."""

    def __init__(self):
        # Where their stretches begin, and the numbers behind their ends, both rising.
        self.begins = []
        self.beyonds = []
        # At each c how many more begin there than end at the number ahead of it.
        self.turns = {}

    def sum_at(self, c):
        """How many speak truly by the company c, those who stand and the company together; -1 by -1."""
        return c + many_to(self.begins, c) - many_to(self.beyonds, c)

    def grows_at(self, c):
        """Whether by the company c there are more than by the one ahead; by 0 there always are."""
        return self.turns.get(c, 0) >= 0

    def saying_for(self, stretch):
        """The least saying that says this of the company (None: never true) in front of those who stand, or None."""
        if stretch is None:
            # The first of all to begin skips a total, and ahead of that each total is its company.
            return (self.begins[0], self.begins[0]) if self.begins else None
        first, last = stretch
        if not self.grows_at(first):
            return None
        least = self.sum_at(first - 1) + 1
        if last is None:
            return (least, None)
        return (least, self.sum_at(last)) if self.grows_at(last + 1) else None

    def turn(self, c, more):
        """From c on one more, or one fewer, of those who stand speak truly."""
        numbers = self.begins if more > 0 else self.beyonds
        numbers.insert(many_to(numbers, c), c)
        self.turns[c] = self.turns.get(c, 0) + more

    def put(self, stretch):
        """Who says this of the company stands in front now."""
        if stretch is None:
            return
        first, last = stretch
        self.turn(first, 1)
        if last is not None:
            self.turn(last + 1, -1)
