"""A gallery: WAYs that hang there, and deeds that can be undone."""

from mirrordoors.errors import Known, NothingDone, NoWay
from mirrordoors.looks import seen_in
from mirrordoors.makers import all_but, chain_to, is_of, together


class Gallery:
    """A set of WAYs that hang there, and what hung there ahead of each deed."""

    def __init__(self, ways=()):
        self._ways = tuple(sorted(set(ways)))
        self._earlier = []

    @property
    def ways(self):
        """The set of the WAYs that hang there."""
        return self._ways

    @property
    def makers(self):
        """The makers of their family."""
        return together(self._ways, ())

    @property
    def deeds(self):
        """How many deeds can be undone now."""
        return len(self._earlier)

    def __len__(self):
        return len(self._ways)

    def __contains__(self, way):
        return is_of(self._ways, way)

    def __eq__(self, other):
        return isinstance(other, Gallery) and self._ways == other._ways

    def hang(self, way):
        """Hangs one more; raises Known(way) if it hangs there."""
        if way in self._ways:
            raise Known(way)
        self._exchange(self._ways + (way,))

    def take(self, way):
        """Takes one away; raises NoWay(way) if it does not hang there."""
        if way not in self._ways:
            raise NoWay(way)
        self._exchange(all_but(self._ways, way))

    def look(self, way):
        """Exchanges each for that at which it is seen in this WAY."""
        self._exchange([seen_in(one, way) for one in self._ways])

    def tidy(self):
        """Hangs the makers in the place of all."""
        self._exchange(self.makers)

    def _exchange(self, ways):
        self._earlier.append(self._ways)
        self._ways = tuple(sorted(set(ways)))

    def undo(self):
        """Undoes the last deed that is not undone yet; raises NothingDone()."""
        if not self._earlier:
            raise NothingDone()
        self._ways = self._earlier.pop()

    def twin(self):
        """An equal Gallery without deeds to undo."""
        return Gallery(self._ways)

    def chain(self, way):
        """The shortest CHAIN that tells this door; None if it is not of their family."""
        return chain_to(self._ways, way)
