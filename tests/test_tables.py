"""Points 1 and 27 to 29: the table of all windows, and the plain row that it tells."""

import copy
import itertools
import random
import unittest

from samples import (Case, GREAT, all_alike, all_unlike, deep_dict, deep_list, deep_tuple, each_so_often, odd_things,
                     plain_by_looking, random_row, round_and_round, short_rows, small_rows, unlike_by_looking)
from unlikerow.errors import NoTable
from unlikerow.lasts import plain_row
from unlikerow.tables import row_of_table, table_of


def table_rows():
    """Rows of at most 150 numbers."""
    rows = small_rows()
    for length in (60, 150):
        rows += [all_unlike(length), all_alike(length), round_and_round(7, length), each_so_often(7, length)]
        rows += [random_row(length + size, length, list(range(-size, GREAT, GREAT // size))) for size in (1, 3, 20, 99)]
    return rows


def table_by_looking(row):
    places = range(len(row) + 1)
    return [[unlike_by_looking(row, first, behind) for behind in places[first:]] for first in places]


def plain_rows(length):
    """Every plain row of this length."""
    rows = [[]]
    for place in range(length):
        rows = [row + [number] for row in rows for number in range(len(set(row)) + 1)]
    return rows


def is_table_by_trying(thing, known={}):
    """Of lists of whole numbers with few lines: whether it is the table of one of all plain rows."""
    length = len(thing) - 1
    if length not in known:
        known[length] = [table_by_looking(row) for row in plain_rows(length)]
    return thing in known[length]


def is_table_by_building(thing):
    """Of lists of whole numbers of a table's form: the one row that may have it, number by number, has it or not."""
    row = []
    for place in range(len(thing) - 1):
        alike = [first for first in range(place) if thing[first][place - first] == thing[first][place - first + 1]]
        row.append(row[alike[-1]] if alike else len(set(row)))
    return table_by_looking(row) == thing


def forms(length, numbers):
    """Every thing of a table's form with a nought at the head of each line and these numbers elsewhere."""
    size = length * (length + 1) // 2
    for chosen in itertools.product(numbers, repeat=size):
        left = list(chosen)
        yield [[0] + [left.pop() for step in range(length - first)] for first in range(length + 1)]


def with_number(table, line, rank, number):
    changed = copy.deepcopy(table)
    changed[line][rank] = number
    return changed


class TableCase(Case):
    def assert_no_table(self, thing):
        self.assert_refused(NoTable, row_of_table, thing)

    def assert_row_or_none(self, thing, is_table):
        if is_table:
            row = row_of_table(thing)
            self.assertEqual(table_by_looking(row), thing)
            self.assertEqual(plain_by_looking(row), row)
            self.assert_list_of_whole(row)
        else:
            self.assert_no_table(thing)


class Table(TableCase):
    def test_written_out(self):
        self.assertEqual(table_of([]), [[0]])
        self.assertEqual(table_of([GREAT]), [[0, 1], [0]])
        self.assertEqual(table_of([3, -1, 3]), [[0, 1, 2, 2], [0, 1, 2], [0, 1], [0]])
        self.assertEqual(table_of([3, 3, -1]), [[0, 1, 1, 2], [0, 1, 2], [0, 1], [0]])
        self.assertEqual(table_of([5, 5, 5]), [[0, 1, 1, 1], [0, 1, 1], [0, 1], [0]])

    def test_against_counting_each_window(self):
        for row in table_rows():
            told = table_of(row)
            self.assertEqual(told, table_by_looking(row))
            self.assertIs(type(told), list)
            for line in told:
                self.assert_list_of_whole(line)

    def test_no_two_lines_are_one_list(self):
        for row in table_rows():
            told = table_of(row)
            self.assertEqual(len({id(line) for line in told}), len(row) + 1)
            for line in told:
                line.clear()
            self.assertEqual(told, [[] for line in told])
            self.assertEqual(table_of(row), table_by_looking(row))

    def test_rows_told_by_hand(self):
        for length in (1, 12, 60, 150):
            firsts = range(length + 1)
            self.assertEqual(table_of(all_unlike(length)), [list(range(length - first + 1)) for first in firsts])
            self.assertEqual(table_of(all_alike(length)), [[0] + [1] * (length - first) for first in firsts])
            rounds = [[min(width, 7) for width in range(length - first + 1)] for first in firsts]
            self.assertEqual(table_of(round_and_round(7, length)), rounds)


class RowOfTable(TableCase):
    def test_written_out(self):
        self.assertEqual(row_of_table([[0]]), [])
        self.assertEqual(row_of_table([[0, 1], [0]]), [0])
        self.assertEqual(row_of_table([[0, 1, 2, 2], [0, 1, 2], [0, 1], [0]]), [0, 1, 0])
        self.assertEqual(row_of_table([[0, 1, 2, 2], [0, 1, 1], [0, 1], [0]]), [0, 1, 1])
        self.assertEqual(row_of_table([[0, 1, 1, 1], [0, 1, 1], [0, 1], [0]]), [0, 0, 0])

    def test_the_plain_row_is_told(self):
        for row in table_rows():
            for table in (table_by_looking(row), table_of(row)):
                told = row_of_table(table)
                self.assertEqual(told, plain_by_looking(row))
                self.assertEqual(told, plain_row(row))
                self.assert_list_of_whole(told)

    def test_same_table_just_where_same_plain_row(self):
        rows = [row for row in table_rows() if len(row) < 5 or len(row) in (12, 60)]
        tables = [table_of(row) for row in rows]
        plain = [plain_by_looking(row) for row in rows]
        for one, other in itertools.combinations(range(len(rows)), 2):
            self.assertEqual(tables[one] == tables[other], plain[one] == plain[other], (rows[one], rows[other]))

    def test_one_changed_number_of_the_row_shows(self):
        row = random_row(81, 60, list(range(50)))
        for place in range(60):
            other = list(row)
            other[place] = 1000 if row.count(row[place]) > 1 else row[place - 1]
            self.assertEqual(table_of(row) == table_of(other), plain_by_looking(row) == plain_by_looking(other))
            self.assertEqual(row_of_table(table_of(other)), plain_by_looking(other))

    def test_every_thing_of_a_small_form(self):
        for length in range(3):
            for thing in forms(length, range(-1, 4)):
                self.assert_row_or_none(thing, is_table_by_trying(thing))
        tables = 0
        for thing in forms(3, range(4)):
            self.assert_row_or_none(thing, is_table_by_trying(thing))
            tables += is_table_by_trying(thing)
        self.assertEqual(tables, len(plain_rows(3)))
        for chosen in itertools.product((-1, 0, 1, 2), repeat=3):
            self.assert_row_or_none([[chosen[0], chosen[1]], [chosen[2]]], list(chosen) == [0, 1, 0])
        for number in range(-3, 4):
            self.assert_row_or_none([[number]], number == 0)

    def test_one_number_otherwise(self):
        for row in plain_rows(4) + plain_rows(5)[::3]:
            table = table_by_looking(row)
            for line in range(len(table)):
                for rank in range(len(table[line])):
                    for number in {table[line][rank] + 1, table[line][rank] - 1, 0, 1, -1, 7, GREAT, -10 ** 5000}:
                        thing = with_number(table, line, rank, number)
                        self.assert_row_or_none(thing, is_table_by_trying(thing))

    def test_two_numbers_otherwise(self):
        source = random.Random(82)
        for row in plain_rows(3) + plain_rows(4):
            table = table_by_looking(row)
            places = [(line, rank) for line in range(len(table)) for rank in range(len(table[line]))]
            for one, other in itertools.combinations(places, 2):
                for first, second in ((1, 1), (-1, -1), (1, -1), (source.randint(-2, 2), source.randint(-2, 2))):
                    thing = with_number(table, one[0], one[1], table[one[0]][one[1]] + first)
                    thing[other[0]][other[1]] += second
                    self.assert_row_or_none(thing, is_table_by_trying(thing))

    def test_tables_of_longer_rows_otherwise(self):
        source = random.Random(83)
        for row in [row for row in table_rows() if 12 <= len(row) <= 60]:
            table = table_by_looking(row)
            for step in range(12):
                thing = copy.deepcopy(table)
                for change in range(source.choice((1, 2))):
                    line = source.randrange(len(table))
                    rank = source.randrange(len(table[line]))
                    thing[line][rank] += source.choice((1, -1, 1, -1, 5))
                self.assert_row_or_none(thing, is_table_by_building(thing))

    def test_only_the_whole_table_will_do(self):
        # Each of these differs from a table in windows that no single line or neighbour tells.
        table = table_by_looking([0, 1, 0, 2, 1, 0])
        for line in range(len(table)):
            for rank in range(len(table[line])):
                raised = copy.deepcopy(table)
                for later in range(rank, len(table[line])):
                    raised[line][later] += 1
                self.assert_row_or_none(raised, is_table_by_trying(raised))
                lowered = copy.deepcopy(table)
                for later in range(rank, len(table[line])):
                    lowered[line][later] -= 1
                self.assert_row_or_none(lowered, is_table_by_trying(lowered))

    def test_building_is_as_good_as_trying(self):
        for thing in forms(3, range(4)):
            self.assertEqual(is_table_by_building(thing), is_table_by_trying(thing))


class NoTables(TableCase):
    ROWS = ([], [4], [4, 4], [4, 6], [6, 4, 4, 6, 1], random_row(84, 60, list(range(9))))

    def test_another_kind_in_any_place(self):
        for row in self.ROWS[:5]:
            table = table_by_looking(row)
            for name, odd in odd_things():
                with self.subTest(row=row, name=name):
                    for line in range(len(table)):
                        for rank in range(len(table[line])):
                            thing = copy.deepcopy(table)
                            thing[line][rank] = odd
                            self.assert_no_table(thing)

    def test_another_kind_in_the_place_of_a_line(self):
        for row in self.ROWS[:5]:
            table = table_by_looking(row)
            for name, odd in odd_things():
                with self.subTest(row=row, name=name):
                    for line in range(len(table)):
                        # The odd list [0] is the last line of every table.
                        if name == "list" and line == len(table) - 1:
                            continue
                        self.assert_no_table(table[:line] + [odd] + table[line + 1:])
                        self.assert_no_table(table[:line] + [odd] + table[line:])
                    self.assert_no_table(table + [odd])

    def test_truths_are_no_numbers(self):
        for thing in ([[False]], [[0, True], [0]], [[0, 1], [False]], [[False, 1], [0]], [[0, True, True], [0, 1], [0]],
                      [[0, 1, 1], [0, True], [0]]):
            self.assert_no_table(thing)

    def test_lines_otherwise(self):
        for row in self.ROWS:
            table = table_by_looking(row)
            for line in range(len(table)):
                ahead, rest = table[:line], table[line + 1:]
                this = table[line]
                for lines in ([], [this, this], [this[:-1]], [this[1:]], [this + [this[-1]]], [this + [this[-1] + 1]],
                              [[0] + this], [tuple(this)], [dict(enumerate(this))], [str(this)], [[this]], [[]],
                              [this[:-1] + [None]], [None], [this[0]], [[0]]):
                    thing = ahead + lines + rest
                    # Less its first line a table is that of the row less its first number; the last line is [0].
                    good = (lines == [] and line == 0 and row != []) or (lines == [[0]] and rest == [])
                    self.assertEqual(good, self.is_told(thing))
            for one, other in itertools.combinations(range(len(table)), 2):
                exchanged = list(table)
                exchanged[one], exchanged[other] = table[other], table[one]
                self.assert_no_table(exchanged)
            self.assert_no_table(table + [[]])
            self.assert_no_table(table + [[0]])
            self.assert_no_table([[]] + table)
            self.assert_no_table([line + [0] for line in table])

    def is_told(self, thing):
        try:
            self.assertEqual(table_by_looking(row_of_table(thing)), thing)
        except NoTable:
            self.assert_no_table(thing)
            return False
        return True

    def test_the_whole_told_otherwise(self):
        for row in self.ROWS:
            table = table_by_looking(row)
            for thing in (tuple(table), [tuple(line) for line in table], dict(enumerate(table)), str(table), [table],
                          (table,), [[line] for line in table], row, tuple(row), len(row), table[0]):
                self.assert_no_table(thing)

    def test_other_things(self):
        for name, thing in odd_things() + [(f"number {number}", number) for number in (0, 1, -1, GREAT)]:
            with self.subTest(name=name):
                if name == "list in list":
                    self.assertEqual(row_of_table(thing), [])
                else:
                    self.assert_no_table(thing)
        for thing in ([[]], [[], []], [[], [0]], [[0], []], [[0], [0]], [0], [0, 1], [[1]], [[0, 0], [0]], [[0, 1], []],
                      [[0, 1]], [[0, 1], [0], []], [[0], [0, 1]], [[[0]]], [[0, 1], [0, 1]], [[0, 2], [0]]):
            self.assert_no_table(thing)

    def test_deep_things(self):
        for depth in (2, 3, 900, 5000, 100000):
            for deep in (deep_list(depth), deep_tuple(depth), deep_dict(depth)):
                for thing in (deep, [deep], [[deep]], [[0, deep], [0]], [[0, 1], [deep]], [[0, 1], deep], [deep, [0]]):
                    self.assert_no_table(thing)


class AskersOwn(TableCase):
    def test_of_the_row(self):
        for row in list(short_rows(3)) + [row for row in table_rows() if len(row) >= 12]:
            self.assert_askers_own(table_of, row)

    def test_of_the_table(self):
        for row in list(short_rows(3)) + [row for row in table_rows() if len(row) >= 12]:
            table = table_by_looking(row)
            kept = copy.deepcopy(table)
            told = row_of_table(table)
            self.assertEqual(table, kept)
            for line in table:
                line.reverse()
                line.append(4)
            table.clear()
            self.assertEqual(told, plain_by_looking(row))
            told.append("spoilt")
            told[0] = None
            self.assertEqual(row_of_table(kept), plain_by_looking(row))

    def test_refused_ones_stay(self):
        for name, odd in odd_things():
            line = [0, odd]
            thing = [line, [0]]
            self.assert_no_table(thing)
            self.assertTrue(thing[0] is line and len(line) == 2 and line[1] is odd and thing[1] == [0])

    def test_a_changed_table_is_looked_at_anew(self):
        table = [[0, 1, 1], [0, 1], [0]]
        self.assertEqual(row_of_table(table), [0, 0])
        table[0][2] = 2
        self.assertEqual(row_of_table(table), [0, 1])
        table[0][2] = 0
        self.assert_no_table(table)


if __name__ == "__main__":
    unittest.main()
