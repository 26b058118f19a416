"""How often the tree is how high, by its borders: heap pages at which a node of a level begins."""

from math import gcd

from keeprows.packing import Packing


def border_level(fanout, low, high):
    """Return the greatest level of a border among the heap pages from low to high, 0 if there is none above that."""
    level = 0
    step = fanout
    while high // step * step >= low:
        level += 1
        step *= fanout
    return level


class Gaps:
    """The rows between each border of a level and the next one, at most so many each, added up.

    Border number k, from 1, is heap page k * step.
    """

    def __init__(self, packing, step, most):
        first, pages, _ = packing.cycle()
        # Behind so many gaps they come again, so many at a time.
        self._near = first // step
        self._period = pages // gcd(pages, step)
        starts = [packing.start_of(number * step) for number in range(1, self._near + self._period + 2)]
        self._sums = [0]
        for at in range(len(starts) - 1):
            self._sums.append(self._sums[-1] + min(most, starts[at + 1] - starts[at]))

    def sum_of(self, many):
        """Return the sum of the first gaps, so many."""
        turns = max(0, many - self._near) // self._period
        one_turn = self._sums[self._near + self._period] - self._sums[self._near]
        return self._sums[many - turns * self._period] + turns * one_turn


class Heights:
    """How high the trees behind numbers of rows are.

    The height is above a level, from 1 on, behind keep - 1 numbers of rows from behind the first row of each border on.
    """

    def __init__(self, settings):
        self._packing = Packing(settings)
        self._fanout = settings.fanout
        self._most = settings.keep - 1
        # Each heap page gets so many rows at least.
        self._rows = settings.size // max(settings.lengths)
        self._gaps = {}

    def above(self, step, moment):
        """Return behind how many numbers of rows below a moment the height is above a level with this step."""
        if moment < 2:
            return 0
        last = self._packing.page_with(moment - 2) // step
        if last == 0:
            return 0
        return self._sum_of_gaps(step, last - 1) + min(self._most, moment - 1 - self._packing.start_of(last * step))

    def sum_below(self, moment):
        """Return the sum of the heights behind all numbers of rows below a moment."""
        total = max(0, moment - 1)
        if moment < 2 or self._most == 0:
            return total
        page = self._packing.page_with(moment - 2)
        step = self._fanout
        while step <= page and (not self._is_wide(step) or page % step < self._most):
            total += self.above(step, moment)
            step *= self._fanout
        # On all further levels each border counts in full, the last one too.
        borders = 0
        number = page // step
        while number > 0:
            borders += number
            number //= self._fanout
        return total + borders * self._most

    def _is_wide(self, step):
        """Return whether borders with this step lie so far apart that each one surely counts in full."""
        return step * self._rows >= self._most

    def _sum_of_gaps(self, step, many):
        if self._is_wide(step):
            return many * self._most
        if step not in self._gaps:
            self._gaps[step] = Gaps(self._packing, step, self._most)
        return self._gaps[step].sum_of(many)
