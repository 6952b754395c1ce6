"""Orders of places with two colours, their lists and their mixes."""

from risewords.base.exact import is_whole
from risewords.cut.sums import slack_mix
from risewords.errors import InvalidNumber, InvalidOperation, InvalidOrder, TooMany
from risewords.order.lists import all_pairs, each_list, list_words
from risewords.word.mixes import mix_of_tops
from risewords.word.rows import OTHER_LETTER, is_firm, need_row, row_of

MAX_PLACES = 12
MAX_PAIRS = 100
MAX_ZIGZAG = 8


class Order:
    """Places with colours, some of which lie below others. It never changes."""

    def __init__(self, colours, pairs):
        if not _are_colours(colours):
            raise InvalidOrder("the colours are a tuple of at most twelve strings x and y")
        if not _are_pairs(pairs, len(colours)):
            raise InvalidOrder("a tuple of at most 100 pairs of places is needed")
        found = all_pairs(len(colours), pairs)
        if any([low == high for low, high in found]):
            raise InvalidOrder("no place lies below itself")
        self._colours = colours
        self._pairs = found

    @property
    def colours(self):
        """The tuple of the colours of the places."""
        return self._colours

    @property
    def pairs(self):
        """The ascending tuple of all pairs of a place and one above it."""
        return self._pairs

    @property
    def size(self):
        """How many places there are."""
        return len(self._colours)

    @property
    def is_firm_order(self):
        """Whether all least places have the colour y, and all greatest ones the colour x."""
        greatest = self._colours_without([low for low, _ in self._pairs])
        return "y" not in greatest and self._is_row_order()

    def _is_row_order(self):
        """Whether all least places have the colour y, so that each list has the word of a row."""
        return "x" not in self._colours_without([high for _, high in self._pairs])

    def _colours_without(self, places):
        """The list of the colours of all other places."""
        return [colour for place, colour in enumerate(self._colours) if place not in places]

    def lists(self):
        """Yields all lists, ascending."""
        size, pairs = len(self._colours), self._pairs
        yield from each_list(size, pairs)

    def list_count(self):
        """How many lists there are."""
        # Without colours all lists have one word.
        return list_words(("",) * len(self._colours), self._pairs)[""]

    def mix(self):
        """The sum of the rows of all lists."""
        if not self._is_row_order():
            raise InvalidOperation("each least place needs the colour y")
        words = list_words(self._colours, self._pairs)
        return mix_of_tops({row_of(word): count for word, count in words.items()}, 1)

    def beside(self, other):
        """Both orders side by side, the places of the other one behind."""
        if not isinstance(other, Order):
            raise InvalidOrder("an object of Order is needed")
        size = len(self._colours)
        if size + other.size > MAX_PLACES:
            raise TooMany(MAX_PLACES)
        moved = [(low + size, high + size) for low, high in other.pairs]
        return Order(self._colours + other.colours, (*self._pairs, *moved))

    def with_pair(self, low, high):
        """The order in which one place is put below another one, too."""
        for place in (low, high):
            if not _is_place(place, len(self._colours)):
                raise InvalidNumber(place)
        if low == high or (high, low) in self._pairs:
            raise InvalidOperation("no place can lie below itself")
        return Order(self._colours, (*self._pairs, (low, high)))

    def mirrored(self):
        """The same places with the other colours, and all pairs turned round."""
        colours = [OTHER_LETTER[colour] for colour in self._colours]
        return Order(tuple(colours), tuple([(high, low) for low, high in self._pairs]))

    def __eq__(self, other):
        return isinstance(other, Order) and self._colours == other._colours and self._pairs == other._pairs

    def __len__(self):
        return len(self._colours)

    def __str__(self):
        return f"order of {len(self._colours)} places {''.join(self._colours)} with {len(self._pairs)} pairs"


def _are_colours(value):
    """Whether the value is a tuple of at most twelve strings x and y."""
    if not isinstance(value, tuple) or len(value) > MAX_PLACES:
        return False
    return all([isinstance(colour, str) and colour in OTHER_LETTER for colour in value])


def _are_pairs(value, size):
    """Whether the value is a tuple of at most 100 pairs of places."""
    return isinstance(value, tuple) and len(value) <= MAX_PAIRS and all([_is_pair(pair, size) for pair in value])


def _is_pair(value, size):
    """Whether the value is a pair of places."""
    return isinstance(value, tuple) and len(value) == 2 and all([_is_place(place, size) for place in value])


def _is_place(value, size):
    """Whether the value is a place of an order of a size."""
    return is_whole(value) and 0 <= value < size


def zigzag(row):
    """The zigzag of a row: chains that rise, each one ahead joined at its top to the foot of the next one."""
    need_row(row)
    if sum(row) > MAX_PLACES:
        raise TooMany(MAX_PLACES)
    colours, pairs = [], []
    for entry in row:
        foot = len(colours)
        if foot > 0:
            pairs.append((foot, foot - 1))
        pairs.extend([(place, place + 1) for place in range(foot, foot + entry - 1)])
        colours.extend(["y"] + ["x"] * (entry - 1))
    return Order(tuple(colours), tuple(pairs))


def zigzag_gap(row):
    """The mix of the zigzag of a firm row less the sum of all joinings of the row."""
    if row == () or not is_firm(row):
        raise InvalidOperation("a firm row other than () is needed")
    if sum(row) > MAX_ZIGZAG:
        raise TooMany(MAX_ZIGZAG)
    return zigzag(row).mix() - slack_mix(row)
