"""What has been entered under keys, and what of it is still in force."""

LEAST_KEY = 1
GREATEST_KEY = 1000000000


def is_key(number):
    return LEAST_KEY <= number <= GREATEST_KEY


class Ledger:
    """Entries by key; a key is used up by its entry, also when that is no longer in force."""

    def __init__(self, most_in_force, most_in_all):
        self.most_in_force = most_in_force
        self.most_in_all = most_in_all
        self.used = {}
        self.in_force = {}

    def refusal(self, key, first_number):
        """Why nothing can be entered with that key: first_number or one of the two below it; 0 where it can."""
        if key in self.used:
            return first_number
        if len(self.in_force) >= self.most_in_force:
            return first_number - 1
        if len(self.used) >= self.most_in_all:
            return first_number - 2
        return 0

    def enter(self, key, entry):
        self.used[key] = True
        self.in_force[key] = entry

    def end_force(self, key):
        """Answers 0, or -1 where nothing in force has that key."""
        if key not in self.in_force:
            return -1
        self.in_force.pop(key)
        return 0

    def entries(self):
        """What is in force, by keys ascending, as a dict of its own."""
        found = {}
        for key in sorted(self.in_force):
            found[key] = self.in_force[key]
        return found

    def entry_list(self):
        """What is in force, without the keys, by keys ascending."""
        return list(self.entries().values())
