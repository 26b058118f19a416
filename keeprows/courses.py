"""How a store goes on, block by block, at any row.

What a block does hangs on how many zeros its number ends with, and on the phase of its first heap page. At its
beginning the nodes of great levels come and go: two more for each zero, one behind the other. So each phase is run
once, and the spans of many blocks are put together along the digits of their numbers.
"""

from keeprows.nodes import nodes_beyond, power
from keeprows.packing import Packing
from keeprows.phases import blocks, phases
from keeprows.spans import joined, joined_all, narrowed, run_spans, still_span, widened
from keeprows.states import State, do_row, give_pages, pages_in_use, state_behind_checkpoint

# About so many rows are run plainly at most, behind a checkpoint from which the order of all pages is known.
FEW_ROWS = 64


def zeros_of(fanout, block):
    """Return how many zeros a number from 1 on ends with, written with the fanout as base."""
    # First 1, 2, 4 .. zeros at once, then what is left of them.
    steps = []
    step = fanout
    while block % step == 0:
        steps.append(step)
        step *= step
    zeros = 0
    for step in steps[::-1]:
        zeros *= 2
        if block % step == 0:
            block //= step
            zeros += 1
    return zeros


def parts_between(course, first, last):
    """Return the spans, one behind the other, that make up the blocks from first to last - 1."""
    parts = []
    block = first
    zeros = 0
    step = 1
    while block < last:
        while block % (step * course.fanout) == 0 and block + step * course.fanout <= last:
            zeros += 1
            step *= course.fanout
        while block + step > last:
            zeros -= 1
            step //= course.fanout
        parts += [course.start_span(block), course.tail_span(block, zeros)]
        block += step
    return parts


class Course:
    """The spans of the blocks of a store, and its state behind any number of rows.

    A block begins with a start, up to the checkpoint that leaves nothing of the nodes of great levels; then comes its
    rest. Its tail, for a number of zeros with which it ends, is its rest with the fanout ** zeros - 1 blocks behind it.
    """

    def __init__(self, settings, counted):
        self.width, self.first_block = blocks(settings)
        self.fanout = settings.fanout
        self.packing = Packing(settings)
        self.many_phases = phases(settings)[0]
        self._settings = settings
        self._counted = counted
        self._jump = settings.every * (FEW_ROWS // settings.every + 1)
        # All these are worked out when they are needed, and kept.
        self._near = []
        self._many = {}
        self._bases = {}
        self._starts = {}
        self._rests = {}
        self._tails = {}
        # Anchors are blocks, the first one ahead, each one behind the whole tail of the one before; with their spans.
        self._anchors = [self.first_block]
        self._anchored = [still_span()]
        # The last answer of span_to: questions about one block often follow one another.
        self._found_block = None
        self._found = still_span()

    def begin_of(self, block):
        """Return behind how many rows a block begins."""
        return self.packing.start_of(block * self.width)

    def block_at(self, moment):
        """Return the number of the block that has the heap page of the next row."""
        return self.packing.page_with(moment) // self.width

    def phase_of(self, block):
        """Return the phase of the first heap page of a block."""
        return block * self.width % self.many_phases

    def many_at(self, block):
        """Return how many pages are in use at the beginning of a block."""
        phase = self.phase_of(block)
        if phase not in self._many:
            self._many[phase] = len(pages_in_use(self.state_at(block)))
        return self._many[phase]

    def state_at(self, block):
        """Return the state at the beginning of a block, with the pages numbered by position."""
        begin = self.begin_of(block)
        state = state_behind_checkpoint(self._settings, begin - begin % self._settings.every)
        while state.done < begin:
            do_row(state)
        give_pages(state, list(range(len(pages_in_use(state)))))
        return state

    def near_spans(self):
        """Return the spans from 0 rows, one behind each few rows, the last one to the beginning of the first block."""
        if not self._near:
            end = self.begin_of(self.first_block)
            moments = list(range(0, end, self._jump)) + [end]
            self._near = run_spans(State(self._settings), moments, self._counted)
        return self._near

    def near_state(self, at):
        """Return the state behind the near span with a number, but the last, with the pages numbered by position."""
        return state_behind_checkpoint(self._settings, at * self._jump)

    def start_span(self, block):
        """Return the span of the start of a block."""
        key = (zeros_of(self.fanout, block), self.phase_of(block))
        if key not in self._starts:
            base, place = self.start_base(block)
            self._starts[key] = widened(base, place, 2 * key[0])
        return self._starts[key]

    def start_base(self, block):
        """Return (span, place): the start of a block as if it ended with no zero, and where its topmost node is taken.

        For each zero there are two more nodes, which are taken just ahead of that one, given back just ahead of it,
        and written as often as it is.
        """
        phase = self.phase_of(block)
        if phase not in self._bases:
            state = self.state_at(block)
            place = self._topmost_place(state)
            span = run_spans(state, [self._settled_in(block)], self._counted)[0]
            self._bases[phase] = (narrowed(span, place, 2 * zeros_of(self.fanout, block)), place)
        return self._bases[phase]

    def rest_spans(self, block):
        """Return the spans of the rest of a block, one behind each few rows, the last one to its end."""
        phase = self.phase_of(block)
        if phase not in self._rests:
            settled = self._settled_in(block)
            end = self.begin_of(block + 1)
            moments = list(range(settled, end, self._jump)) + [end]
            self._rests[phase] = run_spans(self.rest_state(block, 0), moments, self._counted)
        return self._rests[phase]

    def rest_state(self, block, at):
        """Return the state behind the rest span with a number, but the last, with the pages numbered by position."""
        return state_behind_checkpoint(self._settings, self._settled_in(block) + at * self._jump)

    def tail_span(self, block, zeros):
        """Return the span of the tail of a block that ends with so many zeros, or more."""
        if zeros == 0:
            return self.rest_spans(block)[-1]
        key = (zeros, self.phase_of(block))
        if key not in self._tails:
            span = self.tail_span(block, zeros - 1)
            step = power(self.fanout, zeros - 1)
            for other in range(block + step, block + self.fanout * step, step):
                span = joined(joined(span, self.start_span(other)), self.tail_span(other, zeros - 1))
            self._tails[key] = span
        return self._tails[key]

    def between(self, first, last):
        """Return the span of the blocks from first to last - 1."""
        return joined_all(parts_between(self, first, last))

    def reach_anchor(self, number, last):
        """Return whether the anchor with a number is a block up to the last one, and find it if it is."""
        while len(self._anchors) <= number:
            block = self._anchors[-1]
            zeros = zeros_of(self.fanout, block)
            if block + power(self.fanout, zeros) > last:
                return False
            span = joined(self._anchored[-1], self.start_span(block))
            self._anchored.append(joined(span, self.tail_span(block, zeros)))
            self._anchors.append(block + power(self.fanout, zeros))
        return self._anchors[number] <= last

    def anchors_known(self):
        """Return how many anchors have been reached."""
        return len(self._anchors)

    def anchor(self, number):
        """Return (block, span) for an anchor that has been reached: the span is that from the first block to it."""
        return (self._anchors[number], self._anchored[number])

    def parts_to(self, block):
        """Return the spans, one behind the other, from 0 rows to the beginning of a block."""
        number = len(self._anchors) - 1
        while self.reach_anchor(number + 1, block):
            number += 1
        while self._anchors[number] > block:
            number -= 1
        anchor, span = self.anchor(number)
        return [self.near_spans()[-1], span] + parts_between(self, anchor, block)

    def span_to(self, block):
        """Return the span from 0 rows to the beginning of a block."""
        if self._found_block != block:
            self._found = joined_all(self.parts_to(block))
            self._found_block = block
        return self._found

    def piece_state(self, block, at):
        """Return the state at the beginning of a piece, with the pages numbered by position.

        The pieces of block 0 stand for all rows ahead of the first block: piece number at ends with the near span of
        that number. Of other blocks piece 0 is the start, and the others end with the rest spans.
        """
        if block == 0:
            return self.near_state(at - 1)
        if at == 0:
            return self.state_at(block)
        return self.rest_state(block, at - 1)

    def piece_end(self, block, at):
        """Return behind how many rows a piece ends."""
        if block == 0:
            return min(at * self._jump, self.begin_of(self.first_block))
        return min(self._settled_in(block) + at * self._jump, self.begin_of(block + 1))

    def stop_ahead(self, moment):
        """Return (parts, state) for a stop not far ahead of a moment, but not ahead of the beginning of its block.

        The parts are the spans, one behind the other, from there, or from 0 rows on ahead of the first block; the
        state has its pages numbered by position.
        """
        block = self.block_at(moment)
        if block < self.first_block:
            at = moment // self._jump
            return ([self.near_spans()[at]], self.near_state(at))
        settled = self._settled_in(block)
        if moment < settled:
            return ([], self.state_at(block))
        at = (moment - settled) // self._jump
        return ([self.start_span(block), self.rest_spans(block)[at]], self.rest_state(block, at))

    def parts_ahead(self, moment):
        """Return the spans, one behind the other, from 0 rows to the beginning of the block of a moment, if any."""
        block = self.block_at(moment)
        if block < self.first_block:
            return []
        return self.parts_to(block)

    def stop_with_span(self, moment):
        """Return (span, state): the span from 0 rows to the stop ahead of a moment, and the state there."""
        block = self.block_at(moment)
        parts, state = self.stop_ahead(moment)
        if block >= self.first_block:
            parts = [self.span_to(block)] + parts
        return (joined_all(parts), state)

    def state_behind(self, moment):
        """Return the state behind so many rows."""
        span, state = self.stop_with_span(moment)
        give_pages(state, span.order)
        while state.done < moment:
            do_row(state)
        return state

    def _settled_in(self, block):
        """Return behind which checkpoint nothing is left of the nodes at the border with which a block begins."""
        every = self._settings.every
        return (self.begin_of(block) + self._settings.keep + every - 1) // every * every

    def _topmost_place(self, state):
        """Return at which position the next row takes a page for its first node of a block's width or more."""
        begun = nodes_beyond(self.fanout, state.first, state.after, state.first, state.after - 1)
        lower = [level for level, _ in begun if power(self.fanout, level) < self.width]
        log = 1 if state.done % self._settings.every % self._settings.records == 0 else 0
        return state.size + log + 1 + len(lower)
