"""Things made from their parts up, and the ways to their parts.

A way is None at the top, else a pair of the way to what stands around and the step from there.
"""

from thingwires.things import Case


class Builder:
    """Makes a thing, with a list of what is still to do, since things may be hundreds of steps deep.

    What stands in a row, a case or a node is made ahead of it and waits in a list until it is taken.
    A job is a tuple that begins with a word; what is to be done first stands last.
    """

    def __init__(self):
        self.jobs = []
        self.made = []

    def run(self):
        """Do all that is to be done, and tell what was made at last."""
        while self.jobs:
            job = self.jobs.pop()
            word = job[0]
            if word == "keep":
                self.made.append(job[1])
            elif word == "row":
                self.made.append(tuple(self.taken(job[1])))
            elif word == "case":
                self.made.append(Case(job[1], self.made.pop()))
            elif word == "fill":
                self.fill(job[1], job[2])
            else:
                self.begin(job)
        return self.made.pop()

    def begin(self, job):
        """Do a job of another word, which a class below knows."""
        raise NotImplementedError("begin")

    def do_next(self, jobs):
        """Put jobs, which are told in their order, ahead of all else that is still to be done."""
        self.jobs.extend(jobs[::-1])

    def fill(self, node, names):
        """Put the things made for these fields to a node."""
        things = self.taken(len(names))
        for name, thing in zip(names, things):
            node.put(name, thing)
        self.made.append(node)

    def taken(self, many):
        """Take the last things that were made, in their order."""
        start = len(self.made) - many
        things = self.made[start:]
        del self.made[start:]
        return things


def path_along(way):
    """The path of a way."""
    steps = []
    while way is not None:
        way, step = way
        steps.append(step)
    return tuple(steps[::-1])
