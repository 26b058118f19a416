"""The places of a store: in which order its pages in use are told."""


def uses(book):
    """Return the pages in use: live heap pages, nodes, log pages, and those that wait."""
    heap = [page for _, page in book.heap_pages()]
    nodes = [page for _, _, page in book.node_pages()]
    return heap + nodes + book.log_pages() + book.waiting_pages()
