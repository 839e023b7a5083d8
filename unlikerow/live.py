"""A live row: changed place by place, the changes taken back, and asked of its windows all the while."""

from unlikerow.errors import NoPlace
from unlikerow.kinds import is_place
from unlikerow.ready import Ready


def need_place(place, greatest):
    if not is_place(place, greatest):
        raise NoPlace("this is no place of the row")


class Live:
    def __init__(self, row):
        self.numbers = list(row)
        self.ready = Ready(row)
        self.ways_back = []

    def exchange(self, first, behind, numbers):
        """Puts the numbers in the stead of a window's; told is what exchanges them back."""
        gone = self.numbers[first:behind]
        self.numbers = self.numbers[:first] + numbers + self.numbers[behind:]
        self.ready = Ready(self.numbers)
        return (first, first + len(numbers), gone)

    def change(self, place, number):
        need_place(place, len(self.numbers) - 1)
        self.ways_back.append(self.exchange(place, place + 1, [number]))

    def put(self, place, number):
        need_place(place, len(self.numbers))
        self.ways_back.append(self.exchange(place, place, [number]))

    def take(self, place):
        need_place(place, len(self.numbers) - 1)
        number = self.numbers[place]
        self.ways_back.append(self.exchange(place, place + 1, []))
        return number

    def undo(self):
        if self.ways_back == []:
            return False
        way = self.ways_back.pop()
        self.exchange(way[0], way[1], way[2])
        return True

    def row(self):
        return list(self.numbers)

    def unlike(self, first, behind):
        return self.ready.unlike(first, behind)

    def firsts(self, first, behind):
        return self.ready.firsts(first, behind)
