"""Turns: from which place each place has its page; and tallies: how often what happened to the pages of places."""

from keeprows.checks import is_from, is_within
from keeprows.errors import InvalidArgument

KINDS = ("heap", "node", "log", "record", "write")
MOST_STILL = 1000


def is_place(place):
    """Return whether an object is a place."""
    if not isinstance(place, tuple) or len(place) != 2:
        return False
    where, number = place
    return isinstance(where, str) and where in ("use", "list") and is_from(number, 0)


def is_place_among(place, many):
    """Return whether an object is a place where so many pages are in use."""
    return is_place(place) and (place[0] == "list" or place[1] < many)


def are_places(places):
    """Return whether an object is a list of places."""
    return isinstance(places, list) and all([is_place(place) for place in places])


def is_kind(kind):
    """Return whether an object is the kind of what a tally counts."""
    return isinstance(kind, str) and kind in KINDS


def are_once(places, fresh):
    """Return whether places are all in use, and the first ones of the list, so many, each once."""
    used = sorted([number for where, number in places if where == "use"])
    listed = sorted([number for where, number in places if where == "list"])
    return len(listed) == fresh and listed == list(range(len(listed))) and used == list(range(len(used)))


def are_counts(counts):
    """Return whether an object is a dict from places to dicts from kinds to integers from 0."""
    if not isinstance(counts, dict):
        return False
    for place, told in counts.items():
        if not is_place(place) or not isinstance(told, dict):
            return False
        if not all([is_kind(kind) and is_from(number, 0) for kind, number in told.items()]):
            return False
    return True


class Turn:
    """From which place ahead each place behind has its page."""

    def __init__(self, used, front, fresh):
        if not are_places(used):
            raise InvalidArgument("used")
        if not are_places(front):
            raise InvalidArgument("front")
        if not is_from(fresh, 0):
            raise InvalidArgument("fresh")
        if not are_once(used + front, fresh):
            raise InvalidArgument("places")
        self._ahead = len(used) + len(front) - fresh
        many = len(front)
        while many > 0 and front[many - 1] == ("list", fresh - 1):
            many -= 1
            fresh -= 1
        self._used = list(used)
        self._front = front[:many]
        self._fresh = fresh
        self._goals = {}
        for number, place in enumerate(self._used):
            self._goals[place] = ("use", number)
        for number, place in enumerate(self._front):
            self._goals[place] = ("list", number)

    def __eq__(self, other):
        return (
            isinstance(other, Turn)
            and self._used == other._used
            and self._front == other._front
            and self._fresh == other._fresh
        )

    def used(self):
        """Return the list of the origins of the places in use behind."""
        return list(self._used)

    def front(self):
        """Return the shortest list of the origins of the first places of the list behind."""
        return list(self._front)

    def fresh(self):
        """Return the number of the place of the list from which the place behind the front comes."""
        return self._fresh

    def ahead(self):
        """Return how many pages are in use at the first moment."""
        return self._ahead

    def behind(self):
        """Return how many pages are in use at the second moment."""
        return len(self._used)

    def origin(self, place):
        """Return the place ahead from which a place behind has its page."""
        if not is_place_among(place, len(self._used)):
            raise InvalidArgument("place")
        where, number = place
        if where == "use":
            return self._used[number]
        if number < len(self._front):
            return self._front[number]
        return ("list", number - len(self._front) + self._fresh)

    def goal(self, place):
        """Return the place behind to which the page at a place ahead comes."""
        if not is_place_among(place, self._ahead):
            raise InvalidArgument("place")
        if place in self._goals:
            return self._goals[place]
        return ("list", place[1] - self._fresh + len(self._front))

    def then(self, later):
        """Return the Turn of this one and a later one together."""
        if not isinstance(later, Turn) or later.ahead() != len(self._used):
            raise InvalidArgument("later")
        # As far as a place of the list, at the moment in between, is told by either of the two.
        many = max(len(self._front), later.fresh())
        front = [later.origin(("list", number)) for number in range(len(later.front()) + many - later.fresh())]
        return Turn(
            [self.origin(place) for place in later.used()],
            [self.origin(place) for place in front],
            many - len(self._front) + self._fresh,
        )


def still(many):
    """Return the Turn that leaves all pages at their places, with so many in use."""
    if not is_within(many, 0, MOST_STILL):
        raise InvalidArgument("many")
    return Turn([("use", number) for number in range(many)], [], 0)


def are_turns(turns):
    """Return whether an object is a list of Turns that follow one another."""
    if not isinstance(turns, list) or not all([isinstance(turn, Turn) for turn in turns]):
        return False
    return all([turns[at].behind() == turns[at + 1].ahead() for at in range(len(turns) - 1)])


def way(turns, place):
    """Return the places of one page: ahead of the first Turn of a list, and behind each of them."""
    if not are_turns(turns):
        raise InvalidArgument("turns")
    if not is_place(place) or (turns and not is_place_among(place, turns[0].ahead())):
        raise InvalidArgument("place")
    places = [place]
    for turn in turns:
        places.append(turn.goal(places[-1]))
    return places


class Tally:
    """How often what happened to the pages that are at some places ahead."""

    def __init__(self, counts):
        if not are_counts(counts):
            raise InvalidArgument("counts")
        self._counts = {}
        for place, told in counts.items():
            left = {kind: number for kind, number in told.items() if number > 0}
            if left:
                self._counts[place] = left

    def __eq__(self, other):
        return isinstance(other, Tally) and self._counts == other._counts

    def counts(self):
        """Return a dict from places to dicts from kinds to numbers above 0."""
        return {place: {kind: told[kind] for kind in told} for place, told in self._counts.items()}

    def count(self, place, kind):
        """Return how often something happened to the page at a place."""
        if not is_place(place):
            raise InvalidArgument("place")
        if not is_kind(kind):
            raise InvalidArgument("kind")
        return self._counts.get(place, {}).get(kind, 0)


def is_tally_among(tally, many):
    """Return whether an object is a Tally with counts only at places where so many pages are in use."""
    return isinstance(tally, Tally) and all([is_place_among(place, many) for place in tally.counts()])


def both(turn, first, second):
    """Return the Tally of a Turn and of what follows it, by the places ahead of the Turn."""
    if not isinstance(turn, Turn):
        raise InvalidArgument("turn")
    if not is_tally_among(first, turn.ahead()):
        raise InvalidArgument("first")
    if not is_tally_among(second, turn.behind()):
        raise InvalidArgument("second")
    total = first.counts()
    for place, told in second.counts().items():
        # What happened to a page is told by its place ahead, wherever it has come since.
        sums = total.setdefault(turn.origin(place), {})
        for kind in told:
            sums[kind] = sums.get(kind, 0) + told[kind]
    return Tally(total)
