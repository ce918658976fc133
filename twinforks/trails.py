"""Where walkers have been, and whether they go round for ever."""


class Trail:
    """The places that a walker has come to and what was known of its piles there: ahead of each passing, and now."""

    def __init__(self, walker):
        self.walker = walker
        self.been = []
        self.rows = {"x": [], "y": []}
        self.mark()

    def with_next(self, walker):
        """The trail of another walker, one that has gone on from here by one passing."""
        other = Trail(walker)
        other.been = self.been + other.been
        for kind in ("x", "y"):
            other.rows[kind] = self.rows[kind] + other.rows[kind]
        walker.passings = self.walker.passings + walker.passings
        return other

    def mark(self):
        self.been.append(self.walker.place)
        for kind in ("x", "y"):
            self.rows[kind].append(self.walker.piles[kind].known_row())

    def go_all(self, passings):
        """Goes passings; the index of the first one that is not its next, None if it goes all."""
        for at, passing in enumerate(passings):
            if not self.walker.go_as(passing):
                return at
            self.mark()
        return None

    def go_on(self, many):
        """Goes so many passings, which it can."""
        for _ in range(many):
            self.walker.go_through()
            self.mark()

    def is_same_wire(self, first, last):
        """Whether it goes along one wire the same way at two times."""
        return self.been[first] == self.been[last]

    def is_top_kept(self, kind, first, last):
        """Whether those of the figures known at one time that are taken till another one lie on top again then."""
        rows = self.rows[kind][first:last + 1]
        least = min([len(row) for row in rows])
        taken = rows[0][:len(rows[0]) - least]
        return rows[-1][:len(rows[-1]) - least][:len(taken)] == taken
