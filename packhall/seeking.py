"""Seeking: words counted and sought, and stretches read, in a turned text as it lies."""

from packhall.codes import counts_of
from packhall.ranks import Ranked
from packhall.signs import refuse_no_stretch
from packhall.turns import turned_back


def first_ranks(row):
    ranks = {}
    # The empty ending comes ahead of those that begin with a sign.
    rank = 1
    for sign, times in counts_of(row):
        ranks[sign] = rank
        rank = rank + times
    return ranks


class Sought:
    def __init__(self, row, hole, step):
        # Read back only to refuse what no text has, and that ahead of the step.
        self.many = len(turned_back(row, hole))
        self.ranked = Ranked(row, step)
        self.hole = hole
        self.step = step
        self.begins = first_ranks(row)
        self.rank_by_place = {}
        self.place_by_rank = {}
        self.set_marks()

    def set_marks(self):
        rank = 0
        for at in range(self.many, -1, -1):
            # The ends are marked whatever the step: from the one reading begins, at the other no sign is ahead.
            if at % self.step == 0 or at == self.many:
                self.rank_by_place[at] = rank
                self.place_by_rank[rank] = at
            if at > 0:
                rank = self.rank_one_longer(rank)

    def sign_ahead(self, rank):
        # The row leaves the hole out, so all behind it stands one place earlier there.
        return self.ranked.sign_at(rank if rank < self.hole else rank - 1)

    def times_ahead(self, sign, rank):
        return self.ranked.ahead(sign, rank if rank <= self.hole else rank - 1)

    def rank_one_longer(self, rank):
        # Endings that begin with one sign are in the order of what is left without it.
        sign = self.sign_ahead(rank)
        return self.begins[sign] + self.times_ahead(sign, rank)

    def ranks_with(self, word):
        low = 0
        high = self.many + 1
        # A sign that stands nowhere has no times ahead, so low and high fall together.
        for sign in reversed(word):
            begin = self.begins.get(sign, 0)
            low = begin + self.times_ahead(sign, low)
            high = begin + self.times_ahead(sign, high)
        return (low, high)

    def place_at(self, rank):
        added = 0
        marked = rank
        while marked not in self.place_by_rank:
            marked = self.rank_one_longer(marked)
            added = added + 1
        return self.place_by_rank[marked] + added

    def length(self):
        return self.many

    def count(self, word):
        ranks = self.ranks_with(word)
        return ranks[1] - ranks[0]

    def places(self, word):
        ranks = self.ranks_with(word)
        return sorted([self.place_at(rank) for rank in range(ranks[0], ranks[1])])

    def stretch(self, first, last):
        refuse_no_stretch(first, last, self.many)
        # Signs are read backwards, so reading begins at the next mark from the last place on.
        at = min((last + self.step - 1) // self.step * self.step, self.many)
        rank = self.rank_by_place[at]
        text = []
        while at > first:
            at = at - 1
            if at < last:
                text.append(self.sign_ahead(rank))
            rank = self.rank_one_longer(rank)
        text.reverse()
        return text
