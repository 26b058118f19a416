"""How a store goes on, block by block, at any row.

What a block does hangs on how many zeros its number ends with, and on the phase of its first heap page. So each kind
of block is run once, and the spans of many blocks are put together along the digits of their numbers.
"""

from keeprows.nodes import power
from keeprows.packing import Packing
from keeprows.phases import blocks, phases
from keeprows.spans import joined, run_spans, still_span
from keeprows.states import State, do_row, give_pages, pages_in_use, state_behind_checkpoint

# About so many rows are run plainly at most, behind a checkpoint from which the order of all pages is known.
FEW_ROWS = 64


def zeros_of(fanout, block):
    """Return how many zeros a number from 1 on ends with, written with the fanout as base."""
    zeros = 0
    while block % fanout == 0:
        block //= fanout
        zeros += 1
    return zeros


def zeros_up_to(fanout, block, last):
    """Return for how many zeros, with which block ends, fanout ** zeros blocks from it on end by last."""
    zeros = 0
    step = fanout
    while block % step == 0 and block + step <= last:
        zeros += 1
        step *= fanout
    return zeros


class Course:
    """The spans of the blocks of a store, and its state behind any number of rows."""

    def __init__(self, settings, kinds):
        self._width, self.first_block = blocks(settings)
        self.fanout = settings.fanout
        self._phases = phases(settings)[0]
        self._settings = settings
        self._packing = Packing(settings)
        self._kinds = kinds
        self._jump = settings.every * (FEW_ROWS // settings.every + 1)
        # All these are worked out when they are needed, and kept.
        self._near = []
        self._starts = {}
        self._rests = {}
        self._blocks = {}
        self._inner = {}
        self._many = {}
        # The last answer of _span_to: questions about one block often follow one another.
        self._found_block = None
        self._found = still_span(kinds)

    def begin_of(self, block):
        """Return behind how many rows a block begins."""
        return self._packing.start_of(block * self._width)

    def block_at(self, moment):
        """Return the number of the block that has the heap page of the next row."""
        return self._packing.page_with(moment) // self._width

    def many_at(self, block):
        """Return how many pages are in use at the beginning of a block."""
        phase = self._phase_of(block)
        if phase not in self._many:
            self._many[phase] = len(pages_in_use(self.state_at(block)))
        return self._many[phase]

    def state_at(self, block):
        """Return the state at the beginning of a block, with the pages numbered by position."""
        begin = self.begin_of(block)
        state = state_behind_checkpoint(self._settings, begin - begin % self._settings.every)
        while state.done < begin:
            do_row(state)
        give_pages(state, list(range(len(pages_in_use(state)))))
        return state

    def near_spans(self):
        """Return the spans from 0 rows, one behind each few rows, the last one to the beginning of the first block."""
        if not self._near:
            end = self.begin_of(self.first_block)
            moments = list(range(0, end, self._jump)) + [end]
            self._near = run_spans(State(self._settings), moments, self._kinds)
        return self._near

    def near_state(self, at):
        """Return the state behind the span with a number, but the last, of those near the beginning."""
        state = state_behind_checkpoint(self._settings, at * self._jump)
        give_pages(state, self.near_spans()[at].order)
        return state

    def block_span(self, block):
        """Return the span of one block."""
        key = (zeros_of(self.fanout, block), self._phase_of(block))
        if key not in self._blocks:
            self._blocks[key] = joined(self._start_span(block), self._rest_spans(block)[-1])
        return self._blocks[key]

    def inner_span(self, block, zeros):
        """Return the span of the fanout ** zeros - 1 blocks behind one that ends with so many zeros."""
        if zeros == 0:
            return still_span(self._kinds)
        key = (zeros, self._phase_of(block))
        if key not in self._inner:
            span = self.inner_span(block, zeros - 1)
            step = power(self.fanout, zeros - 1)
            for other in range(block + step, block + self.fanout * step, step):
                span = joined(joined(span, self.block_span(other)), self.inner_span(other, zeros - 1))
            self._inner[key] = span
        return self._inner[key]

    def between(self, first, last):
        """Return the span of the blocks from first to last - 1."""
        span = still_span(self._kinds)
        block = first
        while block < last:
            zeros = zeros_up_to(self.fanout, block, last)
            span = joined(joined(span, self.block_span(block)), self.inner_span(block, zeros))
            block += power(self.fanout, zeros)
        return span

    def state_behind(self, moment):
        """Return the state behind so many rows."""
        block = self.block_at(moment)
        if block < self.first_block:
            state = self.near_state(moment // self._jump)
        elif moment < self._settled_in(block):
            state = self.state_at(block)
            give_pages(state, self._span_to(block).order)
        else:
            state = self._settled_state(block, (moment - self._settled_in(block)) // self._jump)
        while state.done < moment:
            do_row(state)
        return state

    def _phase_of(self, block):
        return block * self._width % self._phases

    def _settled_in(self, block):
        """Return behind which checkpoint nothing is left of the nodes at the border with which a block begins."""
        every = self._settings.every
        return (self.begin_of(block) + self._settings.keep + every - 1) // every * every

    def _start_span(self, block):
        """Return the span from the beginning of a block to the checkpoint behind which all is settled."""
        key = (zeros_of(self.fanout, block), self._phase_of(block))
        if key not in self._starts:
            state = self.state_at(block)
            self._starts[key] = run_spans(state, [self._settled_in(block)], self._kinds)[0]
        return self._starts[key]

    def _rest_spans(self, block):
        """Return the spans from the settled checkpoint of a block, the last one to the end of the block."""
        phase = self._phase_of(block)
        if phase not in self._rests:
            settled = self._settled_in(block)
            end = self.begin_of(block + 1)
            moments = list(range(settled, end, self._jump)) + [end]
            self._rests[phase] = run_spans(state_behind_checkpoint(self._settings, settled), moments, self._kinds)
        return self._rests[phase]

    def _settled_state(self, block, at):
        """Return the state behind the span with a number, but the last, from the settled checkpoint of a block."""
        state = state_behind_checkpoint(self._settings, self._settled_in(block) + at * self._jump)
        span = joined(self._span_to(block), self._start_span(block))
        give_pages(state, joined(span, self._rest_spans(block)[at]).order)
        return state

    def _span_to(self, block):
        """Return the span from 0 rows to the beginning of a block."""
        if self._found_block != block:
            self._found = joined(self.near_spans()[-1], self.between(self.first_block, block))
            self._found_block = block
        return self._found
