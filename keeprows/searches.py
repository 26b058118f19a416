"""Searches through all rows of a store, from large spans of blocks down to a few rows.

A seeker stands at some moment. is_in(span) tells whether what it seeks happens in a span from there on, and
pass_over(span) moves it to the end of the span.
"""

from keeprows.checks import ROWS
from keeprows.courses import zeros_of
from keeprows.nodes import power


def seek_among(spans, seeker):
    """Move a seeker to the end of the last of some spans that has not what it seeks: the number of the next one.

    The spans have one beginning, and end later and later. The answer is None if none of them has it.
    """
    for at, span in enumerate(spans):
        if seeker.is_in(span):
            if at > 0:
                seeker.pass_over(spans[at - 1])
            return at
    seeker.pass_over(spans[-1])
    return None


def seek_from(course, seeker, block, zeros):
    """Move a seeker on from the beginning of a block to the piece that has what it seeks: (block, number of the piece).

    The tail for so many zeros is tried first. The answer is None if there is no such piece up to the last row.
    """
    last = course.block_at(ROWS) + 1
    step = power(course.fanout, zeros)
    narrowing = False
    while block < last:
        start = course.start_span(block)
        if seeker.is_in(start):
            return (block, 0)
        seeker.pass_over(start)
        while not narrowing and zeros > 0 and (block % step != 0 or block + step > last):
            zeros -= 1
            step //= course.fanout
        while zeros >= 0 and seeker.is_in(course.tail_span(block, zeros)):
            narrowing = True
            zeros -= 1
            step //= course.fanout
        if zeros < 0:
            return (block, seek_among(course.rest_spans(block), seeker))
        seeker.pass_over(course.tail_span(block, zeros))
        block += step
        if not narrowing:
            # Greater and greater tails are tried until one has it, so that no greater ones are worked out.
            zeros += 1
            step *= course.fanout
    return None


def seek(course, seeker):
    """Move a seeker on from 0 rows to the piece that has what it seeks: (block, number of the piece), or None."""
    at = seek_among(course.near_spans(), seeker)
    if at is not None:
        return (0, at)
    last = course.block_at(ROWS) + 1
    number = 0
    while course.reach_anchor(number + 1, last) and not seeker.is_in(course.anchor(number + 1)[1]):
        number += 1
    block, span = course.anchor(number)
    seeker.pass_over(span)
    return seek_from(course, seeker, block, zeros_of(course.fanout, block))
