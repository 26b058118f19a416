"""Settings as texts of six lines."""

from keeprows.errors import InvalidText
from keeprows.settings import MOST_LENGTHS, MOST_UNITS, Settings, bounds_behind, check_settings


def settings_text(settings):
    """Return the text of settings."""
    check_settings(settings)
    lines = [
        "lengths " + " ".join([str(length) for length in settings.lengths]),
        "size " + str(settings.size),
        "fanout " + str(settings.fanout),
        "records " + str(settings.records),
        "every " + str(settings.every),
        "keep " + str(settings.keep),
    ]
    return "\n".join(lines) + "\n"


def number_in(text, least, most):
    """Return the number from least to most that is written like this, None if there is none."""
    # Looking it up refuses signs, zeros ahead and strange figures, and takes no time for long texts.
    written = {str(number): number for number in range(least, most + 1)}
    return written.get(text)


def lengths_in(line):
    """Return the lengths that a line tells, None if it tells none."""
    words = line.split(" ")
    if words[0] != "lengths" or not 2 <= len(words) <= MOST_LENGTHS + 1:
        return None
    lengths = [number_in(word, 1, MOST_UNITS) for word in words[1:]]
    if None in lengths:
        return None
    return lengths


def value_in(line, part, least, most):
    """Return the number that a line tells for a part, None if it tells none."""
    if not line.startswith(part + " "):
        return None
    return number_in(line[len(part) + 1:], least, most)


def read_settings(text):
    """Return the Settings whose text it is."""
    if not isinstance(text, str):
        raise InvalidText(-1)
    # What stands behind the last line feed is no whole line.
    lines = text.split("\n")
    last = len(lines) - 1
    lengths = lengths_in(lines[0])
    if last < 1 or lengths is None:
        raise InvalidText(0)
    bounds = bounds_behind(lengths)
    values = {}
    for at, (part, least, most) in enumerate(bounds):
        value = value_in(lines[at + 1], part, least, most) if at + 1 < last else None
        if value is None:
            raise InvalidText(at + 1)
        values[part] = value
    if last > len(bounds) + 1 or lines[last] != "":
        raise InvalidText(len(bounds) + 1)
    return Settings(
        lengths, values["size"], fanout=values["fanout"], records=values["records"], every=values["every"],
        keep=values["keep"],
    )
