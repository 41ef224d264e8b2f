"""Pairings of lists, and the papers that tell why there is none."""


def takes(lists, which, holders, tried):
    for number in lists[which]:
        if number not in tried:
            tried[number] = True
            # A number that is held comes free where its holder can take another one.
            if number not in holders or takes(lists, holders[number], holders, tried):
                holders[number] = which
                return True
    return False


def stuck(lists, holders):
    for which in range(len(lists)):
        tried = {}
        if not takes(lists, which, holders, tried):
            # Neither this list nor the holders of what was tried have a number beyond it:
            # so together they are one more than their numbers.
            return sorted([which] + [holders[number] for number in tried])
    return None


def paired(lists):
    holders = {}
    if stuck(lists, holders) is not None:
        return None
    picked = dict([(which, number) for number, which in holders.items()])
    return [picked[which] for which in range(len(lists))]


def lacking(lists):
    return stuck(lists, {})
