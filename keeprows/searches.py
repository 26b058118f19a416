"""Searches through all rows of a store, from large spans of blocks down to a few rows.

A seeker stands at some moment. is_in(span) tells whether what it seeks happens in a span from there on, and
pass_over(span) moves it to the end of the span.
"""

from keeprows.checks import ROWS
from keeprows.courses import zeros_up_to
from keeprows.nodes import power


def seek_among(spans, seeker):
    """Move a seeker to the end of the last of some spans that has not what it seeks: the number of the next one.

    The spans have one beginning, and end later and later. The answer is None if none of them has it.
    """
    for at, span in enumerate(spans):
        if seeker.is_in(span):
            if at > 0:
                seeker.pass_over(spans[at - 1])
            return at
    seeker.pass_over(spans[-1])
    return None


def seek_from(course, seeker, block):
    """Move a seeker on from the beginning of a block to the piece that has what it seeks: (block, number of the piece).

    The answer is None if there is no such piece up to the last row.
    """
    last = course.block_at(ROWS) + 1
    zeros = 0
    narrowing = False
    while block < last:
        start = course.start_span(block)
        if seeker.is_in(start):
            return (block, 0)
        seeker.pass_over(start)
        if not narrowing:
            # Greater and greater tails are tried until one has it, so that no greater ones are worked out.
            zeros = min(zeros, zeros_up_to(course.fanout, block, last))
        while zeros >= 0 and seeker.is_in(course.tail_span(block, zeros)):
            narrowing = True
            zeros -= 1
        if zeros < 0:
            return (block, seek_among(course.rest_spans(block), seeker))
        seeker.pass_over(course.tail_span(block, zeros))
        block += power(course.fanout, zeros)
        if not narrowing:
            zeros += 1
    return None


def seek(course, seeker):
    """Move a seeker on from 0 rows to the piece that has what it seeks: (block, number of the piece), or None."""
    at = seek_among(course.near_spans(), seeker)
    if at is not None:
        return (0, at)
    return seek_from(course, seeker, course.first_block)
