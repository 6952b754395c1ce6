"""Tables of integers: rank, kernel, and what is a sum of multiples of their rows."""

from risewords.base.elimination import eliminated, kernel_rows, making_ratios, product_sum
from risewords.base.exact import is_exact, is_whole, shared_bottom
from risewords.base.ratios import is_integer
from risewords.errors import InvalidOperation, InvalidTable

MAX_SIDE = 40


def is_table(value):
    """Whether the value is a table."""
    if not _is_side(value) or not all([_is_side(row) for row in value]):
        return False
    width = len(value[0])
    return all([len(row) == width and all([is_integer(entry) for entry in row]) for row in value])


def _is_side(value):
    """Whether the value is a tuple of 1 to 40 values."""
    return isinstance(value, tuple) and 1 <= len(value) <= MAX_SIDE


def need_table(table):
    """Refuses what is no table."""
    if not is_table(table):
        raise InvalidTable("a table is a tuple of 1 to 40 tuples of equally many integers, from 1 to 40")


def rank(table):
    """How many rows of the table do not hang on one another."""
    need_table(table)
    _, leads = eliminated(table)
    return len(leads)


def kernel(table):
    """The echelon of all rows whose products with each row of the table add up to 0."""
    need_table(table)
    return kernel_rows(table)


def _need_numbers(table, numbers):
    """Refuses what is no table, and then what is no tuple of integers, one for each column."""
    need_table(table)
    if not isinstance(numbers, tuple) or len(numbers) != len(table[0]):
        raise InvalidOperation("a tuple with an integer for each column is needed")
    if not all([is_integer(number) for number in numbers]):
        raise InvalidOperation("only integers of at most sixty digits are allowed")


def span_paper(table, numbers):
    """A paper about a row of integers: ratios that make it of the table's rows, or a test."""
    _need_numbers(table, numbers)
    ratios = making_ratios(table, numbers)
    if ratios is not None:
        return ("numbers", ratios)
    tests = [row for row in kernel_rows(table) if product_sum(row, numbers) != 0]
    return ("test", tests[0])


def is_span_paper(table, numbers, value):
    """Whether the value is a right paper about a row of integers."""
    _need_numbers(table, numbers)
    if not isinstance(value, tuple) or len(value) != 2 or not isinstance(value[1], tuple):
        return False
    if value[0] == "numbers":
        return _are_right_ratios(table, numbers, value[1])
    return value[0] == "test" and _is_right_test(table, numbers, value[1])


def _are_right_ratios(table, numbers, ratios):
    """Whether these are ratios that make the numbers of the rows of the table."""
    if len(ratios) != len(table) or not all([is_exact(ratio) for ratio in ratios]):
        return False
    bottom = shared_bottom(ratios)
    tops = [ratio[0] * (bottom // ratio[1]) for ratio in ratios]
    sums = [product_sum(tops, [row[at] for row in table]) for at in range(len(numbers))]
    return sums == [bottom * number for number in numbers]


def _is_right_test(table, numbers, test):
    """Whether this is a row of integers that is 0 on the table, and not on the numbers."""
    if len(test) != len(numbers) or not all([is_whole(entry) for entry in test]):
        return False
    return all([product_sum(row, test) == 0 for row in table]) and product_sum(numbers, test) != 0
