"""What is wrong with a crack, or with floor numbers that show that no crack is cheaper."""

from jointsapart.cracks import all_place_prices, check_long, crack_price, numbers_upon
from jointsapart.errors import BadCrack
from jointsapart.ratios import is_sequence, is_whole


def floor_bound(numbers):
    """Return what each crack costs at least, by these floor numbers."""
    return min(numbers[-1])


def floor_fault(wall, prices, numbers):
    """Return the word that tells why these are no floor numbers, or None."""
    check_long(wall)
    if not are_rows_of_numbers(numbers, len(wall), wall.length - 1):
        return "rows"
    rows = all_place_prices(wall, prices)
    if not _are_at_most(numbers[0], rows[0]):
        return "first"
    for beneath, row, costs in zip(numbers, numbers[1:], rows[1:]):
        if not _are_at_most(row, numbers_upon(beneath, prices.bed, costs)):
            return "next"
    return None


def are_rows_of_numbers(thing, many, size):
    """Tell whether this is a list or tuple of so many lists or tuples of `size` whole numbers."""
    if not is_sequence(thing, many, many) or not all([is_sequence(row, size, size) for row in thing]):
        return False
    return all([is_whole(number) for row in thing for number in row])


def _are_at_most(numbers, bounds):
    return all([number <= bound for number, bound in zip(numbers, bounds)])


def crack_fault(wall, prices, crack):
    """Return the word that tells what is wrong with a Crack, or None."""
    try:
        price = crack_price(wall, prices, crack.places)
    except BadCrack:
        return "places"
    return None if is_whole(crack.price, price, price) else "price"


def least_fault(wall, prices, crack, numbers):
    """Return the word that tells why these numbers do not show that no crack is cheaper, or None."""
    word = crack_fault(wall, prices, crack) or floor_fault(wall, prices, numbers)
    if word is not None:
        return word
    return "bound" if floor_bound(numbers) < crack.price else None
