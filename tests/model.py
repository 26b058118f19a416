"""A plain store, row by row, that looks at everything anew with each row: the document's words, as they stand."""

from random import Random

from keeprows.packing import Packing

from plain import count_rows, make, search_cycle

QUESTIONS = ["moment", "heap_pages", "node_pages", "root", "log_pages", "waiting_pages", "changed_pages", "file_size"]


def plain_tree(fanout, pages):
    """The nodes over some heap pages, made level by level, until one node covers all of them."""
    numbers = sorted({page // fanout for page in pages})
    nodes = [(0, number) for number in numbers]
    level = 0
    while len(numbers) > 1:
        level += 1
        numbers = sorted({number // fanout for number in numbers})
        nodes += [(level, number) for number in numbers]
    return nodes


def plain_children(fanout, pages, nodes, node):
    """The children of a node: heap pages as numbers, nodes as nodes."""
    level, number = node
    if level == 0:
        return [page for page in pages if page // fanout == number]
    return [other for other in nodes if other[0] == level - 1 and other[1] // fanout == number]


class PlainStore:
    """A store; its pages in use stand in one dict, by their roles."""

    def __init__(self, settings):
        self.settings = settings
        self.done = 0
        self.rows = []
        self.left = 0
        self.newest = -1
        self.page_for = {}
        self.log = []
        self.waiting = []
        self.free = []
        self.size = 0
        self.changed = set()

    def take(self, role, events):
        if self.free:
            page = self.free.pop(0)
        else:
            page, self.size = self.size, self.size + 1
        events.append(("take", page, role))
        return page

    def heap_numbers(self):
        return sorted({page for _, page in self.rows})

    def nodes(self):
        return plain_tree(self.settings.fanout, self.heap_numbers())

    def families(self):
        """A dict from the nodes to their children."""
        fanout, pages, nodes = self.settings.fanout, self.heap_numbers(), self.nodes()
        return {node: plain_children(fanout, pages, nodes, node) for node in nodes}

    def note_changes(self, before):
        """Nodes of which a child has begun or ended since."""
        for node, children in self.families().items():
            if before.get(node) != children:
                self.changed.add(self.page_for[("node", *node)])

    def step(self):
        events = []
        n, settings = self.done, self.settings
        if n % settings.every % settings.records == 0:
            self.log.append(self.take(("log", n % settings.every // settings.records), events))
        events.append(("record", self.log[-1], n))
        self.put(n, events)
        if len(self.rows) > settings.keep:
            self.drop(events)
        self.done += 1
        if self.done % settings.every == 0:
            self.checkpoint(events)
        return events

    def put(self, n, events):
        before, known = self.families(), self.nodes()
        length = self.settings.lengths[n % len(self.settings.lengths)]
        begins = not self.rows or self.left < length
        if begins:
            self.newest, self.left = self.newest + 1, self.settings.size
        self.left -= length
        self.rows.append((n, self.newest))
        if begins:
            roles = [("heap", self.newest)] + [("node", *node) for node in self.nodes() if node not in known]
            for role in roles:
                self.page_for[role] = self.take(role, events)
            self.note_changes(before)
        self.changed.add(self.page_for[("heap", self.newest)])
        events.append(("put", self.page_for[("heap", self.newest)], n))

    def drop(self, events):
        before, known = self.families(), self.nodes()
        _, number = self.rows.pop(0)
        if number in self.heap_numbers():
            return
        for role in [("heap", number)] + [("node", *node) for node in known if node not in self.nodes()]:
            page = self.page_for.pop(role)
            self.changed.discard(page)
            self.waiting.append(page)
            events.append(("give", page, role))
        self.note_changes(before)

    def checkpoint(self, events):
        events += [("write", page) for page in sorted(self.changed)]
        self.changed = set()
        for page in self.waiting + self.log:
            events.append(("free", page))
            self.free.insert(0, page)
        self.waiting, self.log = [], []

    def moment(self):
        return self.done

    def heap_pages(self):
        return [(number, self.page_for[("heap", number)]) for number in self.heap_numbers()]

    def node_pages(self):
        return [(*node, self.page_for[("node", *node)]) for node in self.nodes()]

    def root(self):
        return self.node_pages()[-1] if self.rows else None

    def log_pages(self):
        return list(self.log)

    def waiting_pages(self):
        return list(self.waiting)

    def changed_pages(self):
        return sorted(self.changed)

    def file_size(self):
        return self.size

    def free_pages(self, count):
        return (self.free + list(range(self.size, self.size + count)))[:count]

    def roles(self):
        """The roles of all pages that were taken: a list, by page."""
        roles = {page: role for role, page in self.page_for.items()}
        for kind, pages in [("log", self.log), ("waiting", self.waiting), ("free", self.free)]:
            roles.update({page: (kind, index) for index, page in enumerate(pages)})
        return [roles[page] for page in range(self.size)]

    def page_of(self, row):
        return self.page_for[("heap", dict(self.rows)[row])]

    def path(self, row):
        number = dict(self.rows)[row]
        pages = [self.page_for[("heap", number)]]
        for level in range(self.nodes()[-1][0] + 1):
            number //= self.settings.fanout
            pages.insert(0, self.page_for[("node", level, number)])
        return pages


def plain_copy(settings, book):
    """A plain store that goes on from where a book is."""
    store = PlainStore(settings)
    packing = Packing(settings)
    store.done = book.moment()
    store.rows = [(row, packing.page_of(row)) for row in range(max(0, store.done - settings.keep), store.done)]
    if store.rows:
        store.newest, store.left = store.rows[-1][1], packing.units_left(store.done - 1)
    for number, page in book.heap_pages():
        store.page_for[("heap", number)] = page
    for level, number, page in book.node_pages():
        store.page_for[("node", level, number)] = page
    store.log, store.waiting = book.log_pages(), book.waiting_pages()
    store.changed, store.size = set(book.changed_pages()), book.file_size()
    used = len(store.page_for) + len(store.log) + len(store.waiting)
    store.free = book.free_pages(store.size - used)
    return store


def answers(store):
    """What a store answers: all but what it tells of single rows and pages."""
    return [getattr(store, question)() for question in QUESTIONS] + [store.free_pages(40)]


def row_answers(store, rows):
    """What a store answers of each row that it keeps, and the roles of its pages."""
    if isinstance(store, PlainStore):
        roles = store.roles()
    else:
        roles = [store.role(page) for page in range(store.file_size())]
    return [(store.page_of(row), store.path(row)) for row in rows], roles


def newest_rows(settings, moment):
    return range(max(0, moment - settings.keep), moment)


def random_settings(chance, most_keep=100, most_every=40):
    greatest = chance.choice([1, 1, 2, 5, 20, 64])
    lengths = [chance.randint(1, greatest) for _ in range(chance.randint(1, 6))]
    size = chance.randint(max(lengths), chance.choice([max(lengths), min(64, 2 * max(lengths)), 64]))
    return make(
        lengths, size, chance.randint(2, 8), chance.randint(1, 16), chance.randint(1, most_every),
        chance.randint(1, most_keep),
    )


def special_settings():
    """Settings at the bounds, and such with a packing or blocks that are rare."""
    return [
        make([1], 1, 2, 4, 10, 3), make([1], 2, 2, 2, 4, 3), make([1], 1, 2, 1, 1, 1), make([1], 64, 8, 16, 40, 100),
        make([1], 1, 2, 16, 40, 100), make([64] * 6, 64, 8, 1, 7, 2), make([2, 1, 3], 5, 3, 3, 4, 9),
        make([1, 1, 2], 3, 4, 2, 6, 1), make([5, 4, 3, 2, 1, 6], 6, 5, 5, 9, 20), make([1], 1, 2, 3, 10, 100),
        # Ahead of the part that comes again there are heap pages of their own.
        make([1, 2, 1], 2, 2, 3, 5, 7), make([3, 3, 2, 2, 2, 48], 63, 2, 3, 5, 20),
        make([7, 13, 10, 1, 12, 14], 24, 3, 1, 5, 4),
        # The first block is number 2.
        make([1, 2, 1], 2, 3, 13, 12, 25), make([3, 3, 2, 2, 2, 48], 63, 6, 7, 15, 1),
        make([2, 9, 7, 2, 8, 20], 64, 3, 14, 6, 35), make([1, 2, 1, 1, 2], 5, 7, 5, 8, 6),
        # The file grows in a block that ends with fewer zeros than one ahead of it.
        make([3, 2, 5, 1], 6, 2, 3, 14, 23),
    ]


def many_settings(seed, many, most_keep=100, most_every=40):
    """Special settings, and some of all sizes."""
    chance = Random(seed)
    found = [one for one in special_settings() if one.keep <= most_keep and one.every <= most_every]
    found = chance.sample(found, min(len(found), (many + 1) // 2))
    found += [random_settings(chance, most_keep, most_every) for _ in range(many - len(found))]
    chance.shuffle(found)
    return found


def plain_phases(settings):
    """(number of phases, number of their rows), found by adding up cycles one by one."""
    _, pages, rows = search_cycle(list(settings.lengths), settings.size)
    many = 1
    while rows * many % settings.every:
        many += 1
    return pages * many, rows * many


def plain_window(settings):
    """(live, begun), looked for at each row of some cycles."""
    lengths = list(settings.lengths)
    first, _, rows = search_cycle(lengths, settings.size)
    pages = [page for _, page, _ in count_rows(lengths, settings.size, 0, 0, 3 * rows + 600)]
    start = pages.index(first)
    live = max(len(set(pages[row:row + settings.keep + 1])) for row in range(start, start + rows))
    begins = [row == 0 or pages[row] != pages[row - 1] for row in range(len(pages))]
    begun = max(sum(begins[row:row + settings.every]) for row in range(start, start + rows))
    return live, begun


def plain_width(settings):
    """How many heap pages a block has."""
    exponent = 0
    while settings.fanout ** exponent < sum(plain_window(settings)) + 1:
        exponent += 1
    return settings.fanout ** exponent


def is_limited(settings):
    """Whether there are too many phases, or too great blocks."""
    return plain_phases(settings)[0] > 16 or plain_width(settings) > 128


def far_settings(seed, many, most_keep=100, most_every=40):
    """Settings of all sizes for which there are far stores."""
    found = [one for one in many_settings(seed, 6 * many, most_keep, most_every) if not is_limited(one)]
    return found[:many]
