"""Counts ahead: a text that tells how often a sign stands ahead of a place, and where it stands so often."""

from packhall.errors import NoNumber, NoPlace


def marks_of(text, step):
    times = {}
    marks = [dict(times)]
    for behind, sign in enumerate(text, start=1):
        times[sign] = times.get(sign, 0) + 1
        if behind % step == 0:
            marks.append(dict(times))
    return marks


class Ranked:
    def __init__(self, text, step):
        if step < 1:
            raise NoNumber("a step is a number from 1 on")
        self.kept = list(text)
        self.step = step
        self.marks = marks_of(text, step)

    def sign_at(self, at):
        if at < 0 or at >= len(self.kept):
            raise NoPlace("no sign stands there")
        return self.kept[at]

    def ahead(self, sign, at):
        if at < 0 or at > len(self.kept):
            raise NoPlace("there is no such place")
        mark = at // self.step
        return self.marks[mark].get(sign, 0) + self.kept[mark * self.step:at].count(sign)

    def last_mark_below(self, sign, k):
        # Counts ahead never fall from mark to mark, so half of the marks can be left out each time.
        low = 0
        high = len(self.marks)
        while high - low > 1:
            middle = (low + high) // 2
            if self.marks[middle].get(sign, 0) < k:
                low = middle
            else:
                high = middle
        return low

    def place_of(self, sign, k):
        mark = self.last_mark_below(sign, k)
        times = self.marks[mark].get(sign, 0)
        for place in range(mark * self.step, len(self.kept)):
            if self.kept[place] == sign:
                times = times + 1
                if times == k:
                    return place
        return None
