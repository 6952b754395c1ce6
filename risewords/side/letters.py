"""Sums of words of the letters x and y that do not commute: brackets, and letters that bar products."""

from risewords.base.checks import need_between
from risewords.base.elimination import echelon, kernel_rows
from risewords.base.exact import is_whole
from risewords.base.ratios import is_ratio
from risewords.base.terms import added_terms, filled_terms, multiplied_terms, opposite_terms
from risewords.base.terms import terms_of_tops, tops_of_terms
from risewords.errors import InvalidLetters, InvalidNumber, TooMany
from risewords.side.bars import joined_sums
from risewords.weave.lyndon import lyndon_rows
from risewords.word.mixes import is_number, ratio_of
from risewords.word.rows import OTHER_LETTER, is_word, rows_of, word_of

MAX_LETTERS = 10
MOST_BARRING = 8
LEAST_BARRING = 3


class Letters:
    """A sum of words of one length, each multiplied by a ratio other than 0. It never changes."""

    def __init__(self, terms):
        if not _are_terms(terms):
            raise InvalidLetters("letters are told by a dict from words of one length to ratios other than 0")
        self._terms = {word: terms[word] for word in sorted(terms)}

    @classmethod
    def of(cls, word):
        """A word as letters."""
        _need_word(word)
        return cls({word: (1, 1)})

    @property
    def terms(self):
        """The dict from the words, ascending, to their ratios."""
        return {word: self._terms[word] for word in self._terms}

    @property
    def weight(self):
        """The length of the words, None for zero letters."""
        lengths = [len(word) for word in self._terms]
        return lengths[0] if lengths else None

    @property
    def is_zero(self):
        """Whether there are no words."""
        return len(self._terms) == 0

    def number_of(self, word):
        """The ratio of a word, (0, 1) for a word that is not there."""
        _need_word(word)
        return self._terms.get(word, (0, 1))

    def __add__(self, other):
        if not isinstance(other, Letters):
            return NotImplemented
        return _sum_of(self, other)

    def __sub__(self, other):
        if not isinstance(other, Letters):
            return NotImplemented
        return _sum_of(self, -other)

    def __neg__(self):
        return _letters_of(opposite_terms(self._terms))

    def __mul__(self, other):
        if isinstance(other, Letters):
            return _product_of(self, other)
        if not is_whole(other) and not isinstance(other, tuple):
            return NotImplemented
        if not is_number(other):
            raise InvalidNumber(other)
        return _letters_of(multiplied_terms(self._terms, ratio_of(other)))

    def __eq__(self, other):
        return isinstance(other, Letters) and self._terms == other._terms

    def __len__(self):
        return len(self._terms)

    def __str__(self):
        if self.is_zero:
            return "zero letters"
        return f"letters of weight {self.weight} with {len(self._terms)} words"


def _need_word(word):
    """Refuses all but strings of at most ten letters x and y."""
    if not is_word(word, MAX_LETTERS):
        raise InvalidLetters("a word is a string of at most ten letters x and y")


def _are_terms(terms):
    """Whether the value is a dict that tells letters."""
    if not isinstance(terms, dict) or not all([is_word(word, MAX_LETTERS) for word in terms]):
        return False
    lengths = {len(word): True for word in terms}
    return len(lengths) < 2 and all([is_ratio(ratio) and ratio[0] != 0 for ratio in terms.values()])


def _letters_of(terms):
    """The letters of a dict from words of one length to ratios of any size; those of 0 are left out."""
    made = Letters({})
    made._terms = filled_terms(terms)
    return made


def _letters_of_tops(tops, bottom):
    """The letters of a dict from words of one length to integers, each divided by an integer."""
    return _letters_of(terms_of_tops(tops, bottom))


def _sum_of(one, other):
    """The sum of two letters of one weight, or of any if one of them is zero."""
    if not one.is_zero and not other.is_zero and one.weight != other.weight:
        raise InvalidLetters("only letters of one weight can be added up")
    return _letters_of(added_terms(one.terms, other.terms))


def _product_of(one, other):
    """The words of the one letters ahead of those of the other ones."""
    _need_short(one, other)
    left, bottom = tops_of_terms(one.terms)
    right, divisor = tops_of_terms(other.terms)
    tops = {front + rear: top * count for front, top in left.items() for rear, count in right.items()}
    return _letters_of_tops(tops, bottom * divisor)


def _need_short(one, other):
    """Refuses two letters other than zero whose weights add up to more than ten."""
    if not one.is_zero and not other.is_zero and one.weight + other.weight > MAX_LETTERS:
        raise TooMany(MAX_LETTERS)


def _need_both(one, other):
    """Refuses the first one of both that is no letters, and then words that would be too long."""
    _need_letters(one)
    _need_letters(other)
    _need_short(one, other)


def _need_letters(letters):
    """Refuses what is no object of Letters."""
    if not isinstance(letters, Letters):
        raise InvalidLetters("an object of Letters is needed")


def bracket(one, other):
    """The product of two letters less that in the other order."""
    _need_both(one, other)
    return one * other - other * one


def acted(one, other):
    """The second letters, acted on by the first ones."""
    _need_both(one, other)
    left, bottom = tops_of_terms(one.terms)
    right, divisor = tops_of_terms(other.terms)
    tops = {}
    for word, top in right.items():
        places = [place for place, letter in enumerate(word) if letter == "y"]
        for place in places:
            for filling, count in left.items():
                _put_bracket(tops, (word[:place], filling, word[place + 1:]), top * count)
    return _letters_of_tops(tops, bottom * divisor)


def _put_bracket(tops, parts, count):
    """Adds so many times the bracket of y and the middle one of three words, between the other two."""
    front, filling, rear = parts
    ahead, behind = front + "y" + filling + rear, front + filling + "y" + rear
    tops[ahead] = tops.get(ahead, 0) + count
    tops[behind] = tops.get(behind, 0) - count


def told_bracket(one, other):
    """The told bracket of two letters."""
    return acted(one, other) - acted(other, one) + bracket(one, other)


def lyndon_bracket(word):
    """The Lyndon bracket of a Lyndon word."""
    if not is_word(word, MAX_LETTERS) or not _is_lyndon_word(word):
        raise InvalidLetters("a Lyndon word of at most ten letters is needed")
    return _letters_of_tops(_lyndon_tops(word), 1)


def _is_lyndon_word(word):
    """Whether a word is not empty, and less than each of its proper ends."""
    return word != "" and all([word < word[place:] for place in range(1, len(word))])


def _lyndon_tops(word):
    """The Lyndon bracket of a Lyndon word, a dict from words to integers."""
    if len(word) == 1:
        return {word: 1}
    place = [at for at in range(1, len(word)) if _is_lyndon_word(word[at:])][0]
    return _bracket_tops(_lyndon_tops(word[:place]), _lyndon_tops(word[place:]))


def _bracket_tops(one, other):
    """The bracket of two dicts from words to integers."""
    tops = {}
    for front, top in one.items():
        for rear, count in other.items():
            tops[front + rear] = tops.get(front + rear, 0) + top * count
            tops[rear + front] = tops.get(rear + front, 0) - top * count
    return tops


def is_lie(value):
    """Whether the value is Lie letters."""
    if not isinstance(value, Letters):
        return False
    if value.is_zero:
        return True
    # Letters are Lie exactly if bracketing each word from its end multiplies them by their weight.
    tops, _ = tops_of_terms(value.terms)
    made = _bracketed(tops, value.weight)
    words = [*tops, *made]
    return all([made.get(word, 0) == value.weight * tops.get(word, 0) for word in words])


def _bracketed(tops, weight):
    """What becomes of words of one length: the bracket of the first letter and what becomes of the rest."""
    if weight < 2:
        return tops
    total = {}
    for letter in OTHER_LETTER:
        rests = {word[1:]: top for word, top in tops.items() if word[0] == letter}
        for word, count in _bracket_tops({letter: 1}, _bracketed(rests, weight - 1)).items():
            total[word] = total.get(word, 0) + count
    return total


def bars_joined(letters):
    """Whether letters bar joined products."""
    _need_letters(letters)
    if letters.is_zero:
        return True
    if letters.weight > MOST_BARRING:
        raise TooMany(MOST_BARRING)
    tops, _ = tops_of_terms(letters.terms)
    return all([sums == [0] for sums in joined_sums(letters.weight, _row_numbers(letters.weight, [tops]))])


def _row_numbers(weight, lots):
    """A dict from the rows of a weight to the row numbers that lots of letters have there, times the weight."""
    numbers = {row: [weight * tops.get(word_of(row), 0) for tops in lots] for row in rows_of(weight)}
    if weight > 1:
        sign = -1 if weight % 2 == 0 else 1
        alone = [sign * tops.get(word_of((weight,)), 0) for tops in lots]
        ones = (1,) * weight
        numbers[ones] = [number + more for number, more in zip(numbers[ones], alone)]
    return numbers


def is_barring(value):
    """Whether the value is barring letters."""
    if not isinstance(value, Letters) or value.is_zero:
        return isinstance(value, Letters)
    return LEAST_BARRING <= value.weight <= MOST_BARRING and is_lie(value) and bars_joined(value)


def barring_basis(weight):
    """The tuple of letters whose sums of multiples are the barring letters of a weight."""
    need_between(weight, LEAST_BARRING, MOST_BARRING)
    lots = [_lyndon_tops(word_of(row)) for row in lyndon_rows(weight)]
    shares = kernel_rows(joined_sums(weight, _row_numbers(weight, lots)))
    words = _words(weight)
    rows = [[sum([share * tops.get(word, 0) for share, tops in zip(row, lots)]) for word in words] for row in shares]
    return tuple([_letters_of_tops(dict(zip(words, row)), 1) for row in echelon(rows)])


def _words(length):
    """The ascending list of all words of so many letters."""
    words = [""]
    for _ in range(length):
        words = [word + letter for word in words for letter in OTHER_LETTER]
    return words
