"""Runs: a plan done deed by deed, in any order, and on behind falls of houses."""

from shardask.courses import Course
from shardask.errors import NoHouse, NotEnded, NotReady
from shardask.values import is_number_below, is_one_of, is_whole


def is_deed(thing, word, many):
    if not isinstance(thing, tuple) or len(thing) != many + 1:
        return False
    return is_one_of(thing[0], (word,)) and all([is_whole(number) for number in thing[1:]])


class Run:
    def __init__(self, town, plan):
        self.course = Course(town, plan)
        self.course.need_answer()
        # For each work (act, house) the bundles (act, from, to) that must come to the house behind it.
        self.awaited = {}
        for number in range(len(self.course.acts)):
            for house in self.course.house_numbers():
                senders = self.course.senders(number, house)
                self.awaited[(number, house)] = [(number, sender, house) for sender in senders]
        self.bundles = {}
        for comings in self.awaited.values():
            for coming in comings:
                self.bundles[coming] = True
        # What each work that is done has for each house, and the rows of each bundle that has come.
        self.done = {}
        self.came = {}
        self.comings = []

    def is_there(self, number, house):
        if (number, house) not in self.done:
            return False
        return all([coming in self.came for coming in self.awaited[(number, house)]])

    def may_work(self, work):
        if work not in self.awaited or work in self.done:
            return False
        return all([self.is_there(ahead, work[1]) for ahead in self.course.acts_ahead(work[0])])

    def may_come(self, coming):
        return coming in self.bundles and coming not in self.came and coming[:2] in self.done

    def ready(self):
        works = [("work",) + work for work in self.awaited if self.may_work(work)]
        return sorted(works + [("come",) + coming for coming in self.bundles if self.may_come(coming)])

    def work(self, number, house):
        inner = [self.there(ahead, house) for ahead in self.course.acts_ahead(number)]
        self.done[(number, house)] = self.course.worked(number, house, inner)

    def come(self, coming):
        rows = self.done[coming[:2]][coming[2]]
        self.came[coming] = rows
        self.comings.append(coming + (len(rows),))

    def do(self, deed):
        if is_deed(deed, "work", 2) and self.may_work(deed[1:]):
            self.work(deed[1], deed[2])
        elif is_deed(deed, "come", 3) and self.may_come(deed[1:]):
            self.come(deed[1:])
        else:
            raise NotReady(None)

    def fall(self, house):
        if not is_number_below(house, len(self.course.house_numbers())):
            raise NoHouse(None)
        self.done = dict([(work, lots) for work, lots in self.done.items() if work[1] != house])
        self.came = dict([(coming, rows) for coming, rows in self.came.items() if coming[2] != house])

    def left(self):
        return len(self.awaited) + len(self.bundles) - len(self.done) - len(self.came)

    def ended(self):
        return self.left() == 0

    def there(self, act, house):
        # What is no whole number may be no key of a dict, or be alike to one that is.
        if not is_whole(act) or not is_whole(house) or not self.is_there(act, house):
            return None
        rows = list(self.done[(act, house)][house])
        for coming in self.awaited[(act, house)]:
            rows.extend(self.came[coming])
        return sorted(rows)

    def log(self):
        return list(self.comings)

    def answer(self):
        if not self.ended():
            raise NotEnded(None)
        last = len(self.course.acts) - 1
        return self.course.answer_by([self.there(last, house) for house in self.course.house_numbers()])
