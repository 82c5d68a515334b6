"""Pages: the places of traced objects."""

CELLS = 8


def emptied(pages, moves):
    """The pages to empty: as many as possible, with the fewest moves, the least ones.

    Pages are (page, objects, pinned). Whatever pages are emptied, the objects of all pages
    must fit into the others, so that their number is bounded whichever they are.
    """
    total = sum([row[1] for row in pages])
    bound = len(pages) - (total + CELLS - 1) // CELLS
    loads = sorted([(objects, page) for page, objects, pinned in pages if not pinned])
    found = []
    left = moves
    for objects, page in loads:
        if len(found) == bound or objects > left:
            break
        left -= objects
        found.append(page)
    return tuple(sorted(found))


class Shelf:
    """The pages, and the place (page, cell) of each traced object.

    `roomy` has, for each kind, the ascending numbers of the pages with free cells.
    """

    def __init__(self):
        self.kinds = {}
        self.cells = {}
        self.places = {}
        self.roomy = {"young": [], "old": []}
        self.made = 0

    def room(self, kind, barred):
        """The least free place of the pages of a kind that are not barred, None without one."""
        for page in self.roomy[kind]:
            if page not in barred:
                return (page, self.cells[page].index(None))
        return None

    def make(self, kind):
        """Makes a page and returns its number."""
        page = self.made
        self.made += 1
        self.kinds[page] = kind
        self.cells[page] = [None] * CELLS
        self.roomy[kind].append(page)
        return page

    def lay(self, page, kind, cells):
        """Adds a page that is there already, behind those with lesser numbers."""
        self.kinds[page] = kind
        self.cells[page] = cells
        for cell, number in enumerate(cells):
            if number is not None:
                self.places[number] = (page, cell)
        if None in cells:
            self.roomy[kind].append(page)

    def put(self, number, place):
        page, cell = place
        cells = self.cells[page]
        self.places[number] = place
        cells[cell] = number
        if None not in cells:
            self.roomy[self.kinds[page]].remove(page)

    def take(self, number):
        """Frees the cell of an object."""
        page, cell = self.places.pop(number)
        cells = self.cells[page]
        if None not in cells:
            kind = self.kinds[page]
            self.roomy[kind] = sorted(self.roomy[kind] + [page])
        cells[cell] = None

    def inhabitants(self, page):
        """The numbers of the objects of a page, in the order of their cells."""
        return [number for number in self.cells[page] if number is not None]

    def of_kind(self, kind):
        """The numbers of the pages of a kind, ascending."""
        return [page for page in self.cells if self.kinds[page] == kind]

    def give_back(self):
        """Gives the pages without objects back and returns their numbers, ascending."""
        bare = [page for page, cells in self.cells.items() if cells.count(None) == CELLS]
        for page in bare:
            self.roomy[self.kinds[page]].remove(page)
            del self.cells[page]
            del self.kinds[page]
        return bare

    def twin(self):
        """An independent shelf that is the same."""
        other = Shelf()
        other.kinds = dict(self.kinds)
        other.cells = {page: list(self.cells[page]) for page in self.cells}
        other.places = {number: self.places[number] for number in self.places}
        other.roomy = {kind: list(self.roomy[kind]) for kind in self.roomy}
        other.made = self.made
        return other
