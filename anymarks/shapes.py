"""Rows of choices: the walk through a saying turned about, and what keeps it in shape."""

from anymarks.basics import is_number
from anymarks.errors import BadParameter, NoShape, TooGreat
from anymarks.forms import MOST_CLAUSES, MOST_PLACES
from anymarks.inward import judged, turned
from anymarks.sayings import need_saying
from anymarks.walks import Piece, pieces_in


def read(saying):
    """Return what the walk through the saying turned about meets, as a tree of choices.

    A node is (WORD, ROWS, ..), ROWS the number of its rows of choices: ("end", 1, END),
    ("box", 1, PIECE, NEEDED), ("pieces", 1, NODES), ("some", ROWS, WAY, NODE), and
    ("and", ROWS, NODE, NODE), ("or", ROWS, NODE, NODE). So each part is judged just once.
    """
    return _node(judged(need_saying(saying), True))


def _node(whole):
    denied, saying, parts = whole
    word = saying[0]
    if denied:
        return ("end", 1, turned(saying, True))
    if word == "letter":
        return ("box", 1, Piece((), whole), ())
    if word == "each":
        pieces = [_piece_node(piece) for piece in pieces_in(whole)]
        return pieces[0] if len(pieces) == 1 else ("pieces", 1, pieces)
    first = _node(parts[0])
    if word == "some":
        return ("some", first[1], saying[1], first)
    second = _node(parts[1])
    rows = first[1] * second[1] if word == "and" else first[1] + second[1]
    return (word, rows, first, second)


def _piece_node(piece):
    if piece.denied:
        return ("end", 1, turned(piece.saying(), True))
    if not piece.is_box():
        raise NoShape(piece.saying(), ())
    return ("box", 1, piece, piece.needed())


class Row:
    """What one row of choices meets: its worlds, and the ends and boxes at them.

    boxes has (J, PIECE, NEEDED) for each box, met at x_J.
    """

    def __init__(self, node, number):
        self.tree = []
        self.ends = [[]]
        self.boxes = []
        self.order = None
        self._meet(0, node, number)

    def _meet(self, place, node, number):
        """Meet at the world x_place the row with this number of a node."""
        while node[0] == "or":
            # Of both parts just one is met.
            if number < node[2][1]:
                node = node[2]
            else:
                number = number - node[2][1]
                node = node[3]
        word = node[0]
        if word == "end":
            self.ends[place].append(node[2])
        elif word == "box":
            self.boxes.append((place, node[2], node[3]))
        elif word == "pieces":
            for piece in node[2]:
                self._meet(place, piece, 0)
        elif word == "some":
            self.tree.append((place, node[2]))
            self.ends.append([])
            self._meet(len(self.tree), node[3], number)
        else:
            slower, faster = divmod(number, node[3][1])
            self._meet(place, node[2], slower)
            self._meet(place, node[3], faster)

    def need_few_worlds(self):
        """Return the row; TooGreat(8) if it has more than eight worlds."""
        if len(self.ends) > MOST_PLACES:
            raise TooGreat(MOST_PLACES)
        return self

    def met_boxes(self):
        """Return the list of the pairs (J, BOX) of the boxes."""
        return [(place, piece.saying()) for place, piece, _ in self.boxes]

    def needed(self):
        """Return for each letter that heads a box the list of the letters needed for it."""
        found = {}
        for _, piece, needed in self.boxes:
            found.setdefault(piece.core[1], []).extend(needed)
        return found

    def letters_in_order(self):
        """Return the tuple of the letters that head boxes, each behind those that it needs."""
        if self.order is None:
            self.order = _ordered(self.needed())
        return self.order


def _ordered(needed):
    """Return the tuple of the letters in their order; NoShape for letters needed for themselves."""
    waiting = sorted(needed)
    if not any(needed.values()):
        return tuple(waiting)
    placed = []
    while waiting:
        free = [letter for letter in waiting if not any([other in waiting for other in needed[letter]])]
        if not free:
            around = [letter for letter in sorted(needed) if letter in _reached(needed, letter)]
            raise NoShape(None, tuple(around))
        placed.append(free[0])
        waiting.remove(free[0])
    return tuple(placed)


def _reached(needed, letter):
    """Return the list of the letters that a letter needs, over several steps or at once."""
    waiting = list(needed[letter])
    found = []
    while waiting:
        other = waiting.pop()
        if other not in found:
            found.append(other)
            waiting.extend(needed.get(other, ()))
    return found


def count_rows(saying):
    """Return how many rows of choices there are."""
    return read(saying)[1]


def row_of(saying, number):
    """Return the row with this number as (TREE, ENDS, BOXES)."""
    row = numbered_row(saying, number)
    ends = tuple([tuple(met) for met in row.ends])
    return (tuple(row.tree), ends, tuple(row.met_boxes()))


def numbered_row(saying, number):
    """Return the Row with this number, with the errors of row_of."""
    node = read(saying)
    if not is_number(number, 0, node[1] - 1):
        raise BadParameter(number)
    return Row(node, number).need_few_worlds()


def needing(saying, number):
    """Return the tuple of the pairs (letter, needed letters) of the row."""
    needed = numbered_row(saying, number).needed()
    return tuple([(letter, tuple(sorted(set(needed[letter])))) for letter in sorted(needed)])


def needing_order(saying, number):
    """Return the tuple of the letters that head boxes of the row, in the order of needing."""
    return numbered_row(saying, number).letters_in_order()


def rows_in_shape(saying):
    """Return the list of all Rows of a saying, with the errors of need_shape."""
    node = read(saying)
    if node[1] > MOST_CLAUSES:
        raise TooGreat(MOST_CLAUSES)
    rows = [Row(node, number) for number in range(node[1])]
    for row in rows:
        row.need_few_worlds()
    for row in rows:
        row.letters_in_order()
    return rows


def need_shape(saying):
    """Return the saying, which is in shape; else the first error that tells why it is not."""
    rows_in_shape(saying)
    return saying


def in_shape(saying):
    """Return whether the saying is in shape, with the other errors of need_shape."""
    try:
        need_shape(saying)
    except NoShape:
        return False
    return True
