"""A queue that gives things back from the lowest price up."""


# No price may be added that is below the last one given back. So a thing lies in the pile of the highest binary
# place at which its price differs from that one, and just the lowest pile need be laid out anew: with prices of very
# many figures, too, a thing is moved seldom.
class Queue:
    def __init__(self):
        self.last = 0
        self.piles = {}

    def add(self, price, thing):
        self.piles.setdefault((price ^ self.last).bit_length(), []).append((price, thing))

    def is_empty(self):
        return len(self.piles) == 0

    # All things of the lowest price, each as (price, thing).
    def take_lowest(self):
        pile = self.piles.pop(min(self.piles.keys()))
        self.last = min([price for price, thing in pile])
        for price, thing in pile:
            self.add(price, thing)
        return self.piles.pop(0)
