"""Searches through all rows of a store, from large spans of blocks down to a few rows.

A seeker stands at some moment. is_in(span) tells whether what it seeks happens in a span from there on, and
pass_over(span) moves it to the end of the span.
"""

from keeprows.checks import ROWS
from keeprows.courses import zeros_of
from keeprows.nodes import power


def seek_among(spans, seeker):
    """Move a seeker to the end of the last of some spans that has not what it seeks: the number of the next one.

    The spans have one beginning, and end later and later. The answer is None if none of them has it.
    """
    for at, span in enumerate(spans):
        if seeker.is_in(span):
            if at > 0:
                seeker.pass_over(spans[at - 1])
            return at
    seeker.pass_over(spans[-1])
    return None


def seek_from(course, seeker, block, zeros):
    """Move a seeker on from the beginning of a block to the piece that has what it seeks: (block, number of the piece).

    The tail for so many zeros is tried first. The answer is None if there is no such piece up to the last row.
    """
    last = course.block_at(ROWS) + 1
    step = power(course.fanout, zeros)
    narrowing = False
    while block < last:
        start = course.start_span(block)
        if seeker.is_in(start):
            return (block, 0)
        seeker.pass_over(start)
        while not narrowing and zeros > 0 and (block % step != 0 or block + step > last):
            zeros -= 1
            step //= course.fanout
        while zeros >= 0 and seeker.is_in(course.tail_span(block, zeros)):
            narrowing = True
            zeros -= 1
            step //= course.fanout
        if zeros < 0:
            return (block, seek_among(course.rest_spans(block), seeker))
        seeker.pass_over(course.tail_span(block, zeros))
        block += step
        if not narrowing:
            # Greater and greater tails are tried until one has it, so that no greater ones are worked out.
            zeros += 1
            step *= course.fanout
    return None


def last_anchor_ahead(course, seeker, last):
    """Return the number of the last anchor, up to a last block, ahead of which there is not yet what a seeker seeks."""
    number = 0
    beyond = course.anchors_known()
    while beyond - number > 1:
        middle = (number + beyond) // 2
        if seeker.is_in(course.anchor(middle)[1]):
            beyond = middle
        else:
            number = middle
    # Further ones are worked out only as far as they are needed.
    while beyond == number + 1 and course.reach_anchor(beyond, last) and not seeker.is_in(course.anchor(beyond)[1]):
        number += 1
        beyond += 1
    return number


def seek(course, seeker):
    """Move a seeker on from 0 rows to the piece that has what it seeks: (block, number of the piece), or None."""
    at = seek_among(course.near_spans(), seeker)
    if at is not None:
        return (0, at)
    block, span = course.anchor(last_anchor_ahead(course, seeker, course.block_at(ROWS) + 1))
    seeker.pass_over(span)
    return seek_from(course, seeker, block, zeros_of(course.fanout, block))
