"""The log: checkpoints, the records since the last one, and the pages on which they stand."""

from keeprows.checks import ROWS, check_moment, check_row, is_from, is_within
from keeprows.errors import InvalidNumber, InvalidRow
from keeprows.settings import check_settings
from keeprows.states import do_row


def pages_for(settings, rows):
    """Return how many log pages the records of the first rows of a period need."""
    return (rows + settings.records - 1) // settings.records


def checkpoints(settings, moment):
    """Return how many checkpoints there have been behind so many rows."""
    check_settings(settings)
    check_moment(moment)
    return moment // settings.every


def checkpoint_moment(settings, k):
    """Return behind how many rows checkpoint number k comes."""
    check_settings(settings)
    if not is_from(k, 0) or (k + 1) * settings.every > ROWS:
        raise InvalidNumber(k)
    return (k + 1) * settings.every


def open_rows(settings, moment):
    """Return (first, after): the records of the rows from first to after - 1 are in the log."""
    check_settings(settings)
    check_moment(moment)
    return (moment - moment % settings.every, moment)


def record_place(settings, row):
    """Return (p, s): the record of a row stands in log page p of its period at position s."""
    check_settings(settings)
    check_row(row)
    place = row % settings.every
    return (place // settings.records, place % settings.records)


def log_total(settings, moment):
    """Return how many log pages there are behind so many rows."""
    check_settings(settings)
    check_moment(moment)
    return pages_for(settings, moment % settings.every)


def log_takes(settings, moment):
    """Return how many pages have been taken for the log behind so many rows."""
    return checkpoints(settings, moment) * pages_for(settings, settings.every) + log_total(settings, moment)


def take_row(settings, k):
    """Return the row with which number k of the pages for the log is taken."""
    check_settings(settings)
    if not is_from(k, 0):
        raise InvalidNumber(k)
    in_period = pages_for(settings, settings.every)
    row = k // in_period * settings.every + k % in_period * settings.records
    if row >= ROWS:
        raise InvalidNumber(k)
    return row


def log_pages(far, moment):
    """Return the pages that are log pages behind so many rows, the oldest first."""
    return far.behind(moment).log_pages()


def record_page(far, moment, row):
    """Return the log page that has the record of a row behind so many rows."""
    first, after = open_rows(far.settings, moment)
    if not is_within(row, first, after - 1):
        raise InvalidRow(row)
    return log_pages(far, moment)[record_place(far.settings, row)[0]]


def record(far, row):
    """Return the record of a row: (row, length, page in which it was put)."""
    check_row(row)
    return (row, far.settings.length_of(row), far.behind(row + 1).heap_pages()[-1][1])


def log_entries(far, moment):
    """Return the whole log: (page, records) for each log page, the oldest first."""
    settings = far.settings
    first, after = open_rows(settings, moment)
    state = far.course.state_behind(first)
    found = []
    while state.done < after:
        # A row is put into the newest heap page; this may be live no more when the period ends.
        row = state.done
        pages = [event[1] for event in do_row(state) if event[0] == "put"]
        if record_place(settings, row)[1] == 0:
            found.append((state.log[-1], []))
        found[-1][1].append((row, settings.length_of(row), pages[0]))
    return found
