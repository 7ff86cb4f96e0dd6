"""The round that is the hardest to crack of all rounds of a length."""

from jointsapart.crackrates import crack_rate
from jointsapart.errors import BadLength
from jointsapart.ratios import compare, is_whole
from jointsapart.rounds import all_rounds


class Strongest:
    """The first round with the greatest ratio, and this ratio."""

    def __init__(self, laid, ratio):
        self.laid = laid
        self.ratio = ratio


def strongest_round(stock, length, prices):
    """Return the Strongest of all rounds of this length, or None if there is no round."""
    if not is_whole(length, 2, 8):
        raise BadLength()
    strongest = None
    for laid in all_rounds(stock, length):
        ratio = crack_rate(laid, prices).ratio
        if strongest is None or compare(ratio, strongest.ratio) > 0:
            strongest = Strongest(laid, ratio)
    return strongest
