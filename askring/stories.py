"""Stories: what happened in a yard, in order, and whether it fits together."""


# What a story has come to. It goes no further than the first wrong happening, so each name stands
# in it once at most, and what is to come next of each ring is the first that is left.
class Judge:
    def __init__(self):
        self.untaken = []
        self.unhanded = []
        self.going = {}
        self.doing = {}

    def fits(self, word, name, worth):
        if word == "asked":
            return name not in self.going
        if word == "taken":
            return self.untaken[:1] == [(name, worth)]
        if word == "answered":
            return name in self.doing
        return self.unhanded[:1] == [(name, worth)]

    def go_on(self, word, name, worth):
        if word == "asked":
            self.going[name] = True
            self.untaken.append((name, worth))
        elif word == "taken":
            self.untaken.pop(0)
            self.doing[name] = True
        elif word == "answered":
            self.doing.pop(name)
            self.unhanded.append((name, worth))
        else:
            self.unhanded.pop(0)
            self.going.pop(name)


def first_wrong(story):
    judge = Judge()
    for number, happening in enumerate(story):
        if not judge.fits(happening[0], happening[1], happening[2]):
            return number
        judge.go_on(happening[0], happening[1], happening[2])
    return None


# Of a right story: there what was fetched are the first of what was laid.
def not_fetched(story, laid, fetched):
    pairs = [(happening[1], happening[2]) for happening in story if happening[0] == laid]
    gone = len([happening for happening in story if happening[0] == fetched])
    return pairs[gone:]
