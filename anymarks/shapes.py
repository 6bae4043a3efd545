"""Rows of choices: the walk through a saying turned about, and what keeps it in shape."""

from anymarks.basics import is_number
from anymarks.errors import BadParameter, NoShape, TooGreat
from anymarks.forms import MOST_CLAUSES, MOST_PLACES
from anymarks.inward import all_denied, turned
from anymarks.sayings import need_saying
from anymarks.walks import needed_by, opened, pieces_in


def read(saying):
    """Return what the walk through the saying turned about meets, as a tree of choices.

    A node is (WORD, ROWS, ..), ROWS the number of its rows of choices: ("end", 1, END),
    ("box", 1, BOX), ("pieces", 1, NODES), ("some", ROWS, WAY, NODE), and
    ("and", ROWS, NODE, NODE), ("or", ROWS, NODE, NODE). So each part is judged just once.
    """
    return _node(turned(need_saying(saying), True))


def _node(saying):
    word = saying[0]
    if all_denied(saying):
        return ("end", 1, turned(saying, True))
    if word == "letter":
        return ("box", 1, saying)
    if word == "each":
        return ("pieces", 1, tuple([_piece(piece) for piece in pieces_in(saying)]))
    if word == "some":
        inner = _node(saying[2])
        return ("some", inner[1], saying[1], inner)
    first = _node(saying[1])
    second = _node(saying[2])
    rows = first[1] * second[1] if word == "and" else first[1] + second[1]
    return (word, rows, first, second)


def _piece(piece):
    if all_denied(piece):
        return ("end", 1, turned(piece, True))
    if opened(piece) is None:
        raise NoShape(piece, ())
    return ("box", 1, piece)


class Row:
    """What one row of choices meets: its worlds, and the ends and boxes at them."""

    def __init__(self, node, number):
        self.tree = []
        self.ends = [[]]
        self.boxes = []
        self._meet(0, node, number)

    def _meet(self, place, node, number):
        """Meet at the world x_place the row with this number of a node."""
        word = node[0]
        if word == "end":
            self.ends[place].append(node[2])
        elif word == "box":
            self.boxes.append((place, node[2]))
        elif word == "pieces":
            for piece in node[2]:
                self._meet(place, piece, 0)
        elif word == "some":
            self.tree.append((place, node[2]))
            self.ends.append([])
            self._meet(len(self.tree), node[3], number)
        elif word == "and":
            slower, faster = divmod(number, node[3][1])
            self._meet(place, node[2], slower)
            self._meet(place, node[3], faster)
        elif number < node[2][1]:
            self._meet(place, node[2], number)
        else:
            self._meet(place, node[3], number - node[2][1])

    def need_few_worlds(self):
        """Return the row; TooGreat(8) if it has more than eight worlds."""
        if len(self.ends) > MOST_PLACES:
            raise TooGreat(MOST_PLACES)
        return self

    def needs(self):
        """Return the pairs (letter, needed letters), ascending, of the letters that head boxes."""
        opens = [opened(box) for _, box in self.boxes]
        heads = sorted({head for _, head in opens})
        return tuple([
            (letter, needed_by([step for steps, head in opens if head == letter for step in steps]))
            for letter in heads
        ])

    def letters_in_order(self):
        """Return the tuple of the letters that head boxes, each behind those that it needs."""
        needs = self.needs()
        around = tuple([letter for letter, _ in needs if letter in _reached(needs, letter)])
        if around:
            raise NoShape(None, around)
        waiting = dict(needs)
        placed = []
        while waiting:
            free = [letter for letter in waiting if not any([other in waiting for other in waiting[letter]])]
            placed.append(free[0])
            del waiting[free[0]]
        return tuple(placed)


def _reached(needs, letter):
    """Return the list of the letters that a letter needs, over several steps or at once."""
    table = dict(needs)
    waiting = list(table[letter])
    found = []
    while waiting:
        other = waiting.pop()
        if other not in found:
            found.append(other)
            waiting.extend(table.get(other, ()))
    return found


def count_rows(saying):
    """Return how many rows of choices there are."""
    return read(saying)[1]


def row_of(saying, number):
    """Return the row with this number as (TREE, ENDS, BOXES)."""
    row = numbered_row(saying, number)
    ends = tuple([tuple(met) for met in row.ends])
    return (tuple(row.tree), ends, tuple(row.boxes))


def numbered_row(saying, number):
    """Return the Row with this number, with the errors of row_of."""
    node = read(saying)
    if not is_number(number, 0, node[1] - 1):
        raise BadParameter(number)
    return Row(node, number).need_few_worlds()


def needing(saying, number):
    """Return the tuple of the pairs (letter, needed letters) of the row."""
    return numbered_row(saying, number).needs()


def needing_order(saying, number):
    """Return the tuple of the letters that head boxes of the row, in the order of needing."""
    return numbered_row(saying, number).letters_in_order()


def rows_in_shape(saying):
    """Return the list of all Rows of a saying, with the errors of need_shape."""
    node = read(saying)
    if node[1] > MOST_CLAUSES:
        raise TooGreat(MOST_CLAUSES)
    rows = [Row(node, number) for number in range(node[1])]
    for row in rows:
        row.need_few_worlds()
    for row in rows:
        row.letters_in_order()
    return rows


def need_shape(saying):
    """Return the saying, which is in shape; else the first error that tells why it is not."""
    rows_in_shape(saying)
    return saying


def in_shape(saying):
    """Return whether the saying is in shape, with the other errors of need_shape."""
    try:
        need_shape(saying)
    except NoShape:
        return False
    return True
