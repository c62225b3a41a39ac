"""The floor: a web that is changed deed by deed, with a mark, and with deeds that are undone and done again."""

from carriedends.carrying import done
from carriedends.deeds import slides_of
from carriedends.errors import BadBundle, BadCount, NothingToRedo, NothingToUndo, TooMany
from carriedends.threads import laid
from carriedends.webs import MOST_BUNDLES, MOST_THREADS, counted, is_bundle, rebuilt

MOST_STANDING = 300


class Floor:
    """A web, a mark, and the deeds that stand, each with web and mark as they were before it."""

    def __init__(self, web):
        self._now = web
        self._home = web
        self._past = []
        # The deeds that were undone, the last one last, each with web and mark as they were after it.
        self._undone = []

    def web(self):
        """Return the web as it stands."""
        return self._now

    def marked(self):
        """Return the mark."""
        return self._home

    def made(self):
        """Return the sum of the slides of the carry and round deeds that stand."""
        return slides_of([row for row, _, _ in self._past if row[0] in ("carry", "round")])

    def record(self):
        """Return the rows of the deeds that stand, in order."""
        return tuple([row for row, _, _ in self._past])

    def carry(self, u, v, length, coat, w, rail, railcoat, *, j=1):
        """Do a carry deed."""
        deed = ("carry", u, v, length, coat, w, rail, railcoat, j)
        self._stand(deed, done(self._now, deed), self._home)

    def around(self, u, v, length, coat, w, out, outcoat, back, backcoat, *, j=1, q=1):
        """Do a round deed."""
        deed = ("round", u, v, length, coat, w, out, outcoat, back, backcoat, j, q)
        self._stand(deed, done(self._now, deed), self._home)

    def lay(self, u, v, length, coat, count):
        """Add threads."""
        thread = self._thread(u, v, length, coat, count)
        counts = counted(self._now.bundles)
        counts[thread] = counts.get(thread, 0) + count
        if len(counts) > MOST_BUNDLES:
            raise TooMany(len(counts))
        total = sum(counts.values())
        if total > MOST_THREADS:
            raise BadCount(total)
        self._stand(("lay", *thread, count), rebuilt(self._now, counts), self._home)

    def lift(self, u, v, length, coat, count):
        """Take threads away."""
        thread = self._thread(u, v, length, coat, count)
        counts = counted(self._now.bundles)
        left = counts.get(thread, 0) - count
        if left < 0:
            raise BadCount(count)
        counts[thread] = left
        if left == 0:
            del counts[thread]
        self._stand(("lift", *thread, count), rebuilt(self._now, counts), self._home)

    def mark(self):
        """Let the mark be the web as it stands."""
        self._stand(("mark",), self._now, self._now)

    def undo(self):
        """Take back the last deed that stands."""
        if not self._past:
            raise NothingToUndo(0)
        row, before, home = self._past.pop()
        self._undone.append((row, self._now, self._home))
        self._now = before
        self._home = home

    def redo(self):
        """Do the deed again that was undone last."""
        if not self._undone:
            raise NothingToRedo(0)
        row, after, home = self._undone.pop()
        self._past.append((row, self._now, self._home))
        self._now = after
        self._home = home

    def _thread(self, u, v, length, coat, count):
        """Return a thread as it is laid; raise BadBundle(0) unless so many like it can be handed in."""
        web = self._now
        if not is_bundle((min(u, v), max(u, v), length, coat, count), web.n, web.wheel, web.coats):
            raise BadBundle(0)
        return laid(u, v, length, coat, web.wheel)

    def _stand(self, row, after, home):
        """Let a deed stand that leads to a web and a mark."""
        if len(self._past) >= MOST_STANDING:
            raise TooMany(MOST_STANDING + 1)
        self._past.append((row, self._now, self._home))
        self._undone = []
        self._now = after
        self._home = home
