"""A row made ready once, and then asked of its windows."""

from unlikerow.errors import NoWindow
from unlikerow.kinds import is_place
from unlikerow.lasts import last_places, next_places


class Ready:
    # Last and next places tell all that is asked, so the row itself is not kept.
    def __init__(self, row):
        self.lasts = last_places(row)
        self.nexts = next_places(row)

    def unlike(self, first, behind):
        return len(self.firsts(first, behind))

    def firsts(self, first, behind):
        if not is_place(behind, len(self.lasts)) or not is_place(first, behind):
            raise NoWindow("these two are no window of the row")
        return [place for place in range(first, behind) if self.lasts[place] < first]

    def end_of(self, first, many):
        length = len(self.lasts)
        if not is_place(first, length):
            raise NoWindow("no window of the row begins there")
        if many == 0:
            return first
        # A window that grows to the right gains an unlike number just at each first place.
        gains = self.firsts(first, length)
        return gains[many - 1] + 1 if many <= len(gains) else None

    def begin_of(self, behind, many):
        if not is_place(behind, len(self.nexts)):
            raise NoWindow("no window of the row ends there")
        if many == 0:
            return behind
        # A window that grows to the left gains one just where the same number isn't in it yet.
        gains = [place for place in range(behind) if self.nexts[place] >= behind]
        return gains[-many] if many <= len(gains) else None
