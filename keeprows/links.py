"""Which heap pages stand beside one another in the order of their rows, told by positions, for any number of blocks.

A link leads from the position of a heap page to the position of the next one. Few links are a list of pairs. Many are
counted in a table, with a row for each first position; a row is kept as one number, in which each second position has
its own bits.
"""

from keeprows.courses import zeros_of
from keeprows.nodes import power
from keeprows.spans import joined, pool_of
from keeprows.states import do_row

# So many pairs at most are kept as a list: with more of them a table is quicker.
MANY_PAIRS = 1024
# Counts are multiplied by numbers of pages, of which there are some hundred, and added up: for that there is room.
ROOM = 13


class LinkSpan:
    """The order behind a span, and the links of the heap pages that begin in it, by the positions ahead."""

    def __init__(self, order, pairs, rows, bits):
        self.order = order
        self.pairs = pairs
        self.rows = rows
        self.bits = bits
        self.total = sum(rows)


def run_pairs(state, end):
    """Do rows from a state on, whose pages are numbered by position: the pairs of the heap pages that begin."""
    pairs = []
    newest = state.heap[state.after - 1]
    while state.done < end:
        for event in do_row(state):
            if event[0] == "take" and event[2][0] == "heap":
                pairs.append((newest, event[1]))
                newest = event[1]
    return pairs


def shifted(pairs, place, more):
    """Return pairs with all positions from a place on shifted."""
    return [
        (one if one < place else one + more, other if other < place else other + more) for one, other in pairs
    ]


def packed(numbers, bits):
    """Return one number that has so many bits for each of some numbers, the first ones lowest."""
    while len(numbers) > 1:
        numbers = numbers + [0] * (len(numbers) % 2)
        numbers = [low | (high << bits) for low, high in zip(numbers[::2], numbers[1::2])]
        bits *= 2
    return numbers[0]


def moved_pairs(part, span):
    """Return the pairs of a part that follows a span, by the positions ahead of the span."""
    pool = pool_of(span, part)
    return [(pool[one], pool[other]) for one, other in part.pairs]


def add_pairs(table, pairs):
    """Add pairs to a table over the same positions."""
    for one, other in pairs:
        table[one][other] += 1


def add_table(table, pool, more):
    """Add a table over positions behind to a table over the positions ahead that a pool tells."""
    # What none of the other positions comes to gets the 0 behind each row.
    goals = [len(more)] * len(table)
    for position in range(len(more)):
        goals[pool[position]] = position
    for position, numbers in enumerate(more):
        ended = numbers + [0]
        row = table[pool[position]]
        table[pool[position]] = [number + ended[goal] for number, goal in zip(row, goals)]


class LinkCourse:
    """The links of the blocks of a store, put together as its course puts together their spans."""

    def __init__(self, course):
        self.fanout = course.fanout
        self._course = course
        self._starts = {}
        self._rests = {}
        self._tails = {}
        # Tails for so many zeros have few links; for one zero more, two more .. they are kept by phase, and so are the
        # tables of the last of these, from which the next ones are made.
        self._few_zeros = 0
        while course.width * power(self.fanout, self._few_zeros + 1) <= MANY_PAIRS:
            self._few_zeros += 1
        self._levels = []
        self._tables = {}

    def block_at(self, moment):
        """Return the number of the block that has the heap page of the next row."""
        return self._course.block_at(moment)

    def start_span(self, block):
        """Return the links of the start of a block."""
        phase = self._course.phase_of(block)
        zeros = zeros_of(self.fanout, block)
        place = self._course.start_base(block)[1]
        if phase not in self._starts:
            pairs = run_pairs(self._course.state_at(block), self._course.piece_end(block, 0))
            # For each zero there are two more pages at this place.
            self._starts[phase] = shifted(pairs, place, -2 * zeros)
        return LinkSpan(self._course.start_span(block).order, shifted(self._starts[phase], place, 2 * zeros), [], 0)

    def rest_spans(self, block):
        """Return nothing, then the links of the whole rest of a block."""
        phase = self._course.phase_of(block)
        if phase not in self._rests:
            pairs = run_pairs(self._course.rest_state(block, 0), self._course.begin_of(block + 1))
            self._rests[phase] = LinkSpan(self._course.rest_spans(block)[-1].order, pairs, [], 0)
        return [LinkSpan([], [], [], 0), self._rests[phase]]

    def tail_span(self, block, zeros):
        """Return the links of the tail of a block that ends with so many zeros, or more."""
        if zeros <= self._few_zeros:
            return self._few_links(block, zeros)
        while len(self._levels) < zeros - self._few_zeros:
            self._add_level()
        return self._levels[zeros - self._few_zeros - 1][self._course.phase_of(block)]

    def _few_links(self, block, zeros):
        """Return the links of the tail of a block as pairs."""
        if zeros == 0:
            return self.rest_spans(block)[1]
        key = (zeros, self._course.phase_of(block))
        if key not in self._tails:
            span = self._course.tail_span(block, zeros - 1)
            pairs = self._few_links(block, zeros - 1).pairs
            step = power(self.fanout, zeros - 1)
            for other in range(block + step, block + self.fanout * step, step):
                pairs = pairs + moved_pairs(self.start_span(other), span)
                span = joined(span, self._course.start_span(other))
                pairs = pairs + moved_pairs(self._few_links(other, zeros - 1), span)
                span = joined(span, self._course.tail_span(other, zeros - 1))
            self._tails[key] = LinkSpan(span.order, pairs, [], 0)
        return self._tails[key]

    def _add_level(self):
        """Make the tails for one more zero, of all phases."""
        zeros = self._few_zeros + len(self._levels) + 1
        step = power(self.fanout, zeros)
        bits = (self._course.width * step).bit_length() + ROOM
        tables = {}
        level = {}
        for number in range(self._course.many_phases):
            block = step * (self._course.first_block + number)
            phase = self._course.phase_of(block)
            if phase not in tables:
                tables[phase] = self._make_table(block, zeros)
                rows = [packed(row, bits) for row in tables[phase]]
                level[phase] = LinkSpan(self._course.tail_span(block, zeros).order, [], rows, bits)
        self._levels.append(level)
        self._tables = tables

    def _make_table(self, block, zeros):
        """Return the table of the tail of a block, made of those for one zero less."""
        many = len(self._course.tail_span(block, zeros).order)
        span = self._course.tail_span(block, zeros - 1)
        table = self._widened_table(block, zeros - 1, many)
        step = power(self.fanout, zeros - 1)
        for other in range(block + step, block + self.fanout * step, step):
            add_pairs(table, moved_pairs(self.start_span(other), span))
            span = joined(span, self._course.start_span(other))
            later = self._course.tail_span(other, zeros - 1)
            if zeros - 1 == self._few_zeros:
                add_pairs(table, moved_pairs(self._few_links(other, zeros - 1), span))
            else:
                add_table(table, pool_of(span, later), self._tables[self._course.phase_of(other)])
            span = joined(span, later)
        return table

    def _widened_table(self, block, zeros, many):
        """Return the table of the tail of a block over so many positions, which are more than it has."""
        if zeros == self._few_zeros:
            table = [[0] * many for _ in range(many)]
            add_pairs(table, self._few_links(block, zeros).pairs)
            return table
        known = self._tables[self._course.phase_of(block)]
        table = [row + [0] * (many - len(row)) for row in known]
        return table + [[0] * many for _ in range(many - len(known))]
