"""Prices: for the arrows that the rules add to a plain machine, how many steps each stands for at the least."""

from callwalk.machines import refuse_unless_plain
from callwalk.queues import Queue


# By the room and the top sign that a rule leads to: the start of the first arrow that it needs.
def rules_by_start(house):
    rules = {}
    for number, rule in enumerate(house[2]):
        if len(rule[3]) > 0:
            rules.setdefault((rule[2], rule[3][0]), []).append((number, rule))
    return rules


# Prices are settled from the lowest up. What a rule gives is above the prices that it comes of, so none that is
# offered behind a settled one can be below it.
class Pricing:
    def __init__(self, house):
        self.rules = rules_by_start(house)
        # For each arrow the lowest (price, rule, mid) that was offered so far.
        self.told = {}
        self.offers = Queue()
        # For each (state, sign) the settled arrows from there, as (state, price).
        self.settled = {}
        # For each (state, sign) the rules that lack just an arrow from there, as (number, rule, price so far).
        self.lacking = {}

    def offer(self, arrow, price, number, mid):
        known = self.told.get(arrow)
        if known is None or price < known[0]:
            self.told[arrow] = (price, number, mid)
            self.offers.add(price, arrow)

    def settle(self, arrow, price):
        start = (arrow[0], arrow[1])
        self.settled.setdefault(start, []).append((arrow[2], price))
        for number, rule, first in self.lacking.get(start, []):
            self.offer((rule[0], rule[1], arrow[2]), first + price + 1, number, arrow[0])
        for number, rule in self.rules.get(start, []):
            if len(rule[3]) == 1:
                self.offer((rule[0], rule[1], arrow[2]), price + 1, number, None)
            else:
                self.settle_first(number, rule, arrow[2], price)

    # The first arrow of a put of two signs leads to mid, for this price.
    def settle_first(self, number, rule, mid, price):
        start = (mid, rule[3][1])
        self.lacking.setdefault(start, []).append((number, rule, price))
        for state, second in self.settled.get(start, []):
            self.offer((rule[0], rule[1], state), price + second + 1, number, mid)

    def settle_all(self):
        while not self.offers.is_empty():
            for price, arrow in self.offers.take_lowest():
                # An arrow may have been offered again for less, and is settled then.
                if self.told[arrow][0] == price:
                    self.settle(arrow, price)


def prices(house, machine):
    refuse_unless_plain(house, machine)
    pricing = Pricing(house)
    for arrow in machine[1]:
        pricing.offer(arrow, 0, None, None)
    for number, rule in enumerate(house[2]):
        if len(rule[3]) == 0:
            pricing.offer((rule[0], rule[1], rule[2]), 1, number, None)
    pricing.settle_all()
    return pricing.told
