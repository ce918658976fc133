"""A walker's piles."""

from twinforks.endless import drop_tops, put_all
from twinforks.forms import figure_there


class Pile:
    """Figures that are known, on an endless row or, where nothing else is known, on None."""

    def __init__(self, row, endless):
        # The top is the last one here, where it is put and taken.
        self.known = list(reversed(row))
        self.under = endless
        self.gone = 0

    def twin(self):
        """Another pile alike."""
        other = Pile([], self.under)
        other.known = list(self.known)
        other.gone = self.gone
        return other

    def has_top(self):
        return len(self.known) > 0 or self.under is not None

    def take_figure(self):
        if len(self.known) > 0:
            return self.known.pop()
        self.gone += 1
        return figure_there(self.under, self.gone - 1)

    def put_figure(self, figure):
        self.known.append(figure)

    def known_row(self):
        """The known figures, the top first."""
        return list(reversed(self.known))

    def whole(self):
        """The endless row that the pile is."""
        return put_all(self.known_row(), drop_tops(self.under, self.gone))
