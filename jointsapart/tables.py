"""The courses of one length in a table: which of them are apart, and the tops of walls made of them."""

from jointsapart.course import courses_of, joints_of


class Table:
    """All courses of one length, numbered in ascending order; below, courses are told by these numbers."""

    def __init__(self, stock, length):
        self.reach = stock.reach
        self.courses = tuple(courses_of(stock, length))
        self.numbers = {course: number for number, course in enumerate(self.courses)}
        self.places = tuple([_bits(joints_of(course)) for course in self.courses])
        self.bars = tuple([_spread(joints, stock.lap) for joints in self.places])
        self.known = {}

    def apart_from(self, numbers):
        """Return the ascending numbers of the courses that are apart from each of these."""
        barred = 0
        for number in numbers:
            barred = barred | self.bars[number]
        if barred not in self.known:
            self.known[barred] = tuple([number for number, joints in enumerate(self.places) if not barred & joints])
        return self.known[barred]

    def told(self, numbers):
        """Return the courses with these numbers."""
        return tuple([self.courses[number] for number in numbers])

    def top_of(self, courses):
        """Return the numbers of the last courses, as many as the reach, or of all."""
        return tuple([self.numbers[course] for course in courses[-self.reach:]])

    def top_with(self, top, number):
        """Return the top behind this one when a course is laid on it."""
        return (top + (number,))[-self.reach:]


def _bits(places):
    return sum([1 << place for place in places])


def _spread(bits, lap):
    """Return the bits of all places less than the lap from one of these."""
    spread = 0
    for by in range(lap):
        spread = spread | bits << by | bits >> by
    return spread


def tops_of(table, size):
    """Return all rows of `size` courses that are pairwise apart, in ascending order."""
    tops = [()]
    for _ in range(size):
        tops = [top + (number,) for top in tops for number in table.apart_from(top)]
    return tops


def is_in_lot(table, numbers):
    """Tell whether these courses, which are pairwise apart, stand together in a lot of reach + 1 courses."""
    if len(numbers) > table.reach:
        return True
    return any([is_in_lot(table, numbers + (number,)) for number in table.apart_from(numbers)])
