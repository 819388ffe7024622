"""Which pictures of a gallery fall, for what is known to be a gallery and numbers of sets of its pegs."""

from pulledpegs.keeping import Forms
from pulledpegs.numbered import number_of


class Hangs:
    """A gallery that is looked at: its pictures, and by what they hang."""

    def __init__(self, gallery):
        wall, owners, cords = gallery
        self.pictures = tuple(range(1, len(cords) + 1))
        # At 0 stands the number of the wall pegs, and at each picture that of the pegs in its frame.
        self.lots = [_number_owned(owners, owner) for owner in range(len(cords) + 1)]
        self.forms = [Forms(wall, cord) for cord in cords]

    def does_fall(self, picture, number):
        """Whether the picture falls on the set with the number."""
        return self.forms[picture - 1].on(number) == ()

    def number_with(self, left, pictures):
        """The number of the pegs that are left in the wall, and of those in the frames of some pictures."""
        number = left
        for picture in pictures:
            number = number | self.lots[picture]
        return number

    def falling(self, left, pictures):
        """Those of some pictures that fall in the end, in an order in which they can, if the others are gone."""
        order = []
        number = self.number_with(left, pictures)
        many = -1
        while many < len(order):
            many = len(order)
            for picture in pictures:
                if picture not in order and self.does_fall(picture, number):
                    order.append(picture)
                    number = number ^ self.lots[picture]
        return order

    def hanging(self, left, pictures):
        """The ascending tuple of those of some pictures that hang in the end, if the others are gone."""
        fallen = self.falling(left, pictures)
        return tuple([picture for picture in pictures if picture not in fallen])


def _number_owned(owners, owner):
    return number_of([peg for peg, its in enumerate(owners, start=1) if its == owner])
