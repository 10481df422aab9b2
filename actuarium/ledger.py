"""A ledger of policies of one life table at one interest rate, by names."""

from actuarium.errors import BadName, BadPolicy, BadWanted, NoName, NothingToUndo
from actuarium.lives import check_lives, dying_part, is_age, living_part, span_of
from actuarium.policies import check_policy, check_premium, entry_of, net_paid_at, reserve_list
from actuarium.ratios import check_rate, is_filled, multiplied, plus, total

LETTERS = "abcdefghijklmnopqrstuvwxyz"
MOST_LETTERS = 8


def check_name(name):
    """Raise BadName for a value that is not a name."""
    if not isinstance(name, str) or not 1 <= len(name) <= MOST_LETTERS:
        raise BadName(f"a name is a string of 1 to {MOST_LETTERS} letters")
    if not all(letter in LETTERS for letter in name):
        raise BadName("the letters of a name are those from a to z")


def made_policy(lives, rate, entry):
    """Return the policy that an entry makes with a life table and a rate."""
    age, alive, dead, premium, years = entry
    return (lives, age, rate, alive, dead, premium, years)


def check_entry(lives, rate, entry):
    """Raise the error of the first part of an entry that is not allowed."""
    if not is_filled(entry, 5, 5):
        raise BadPolicy("an entry is a tuple of five parts")
    check_policy(made_policy(lives, rate, entry))


def year_older(entry):
    """Return an entry a year later."""
    age, alive, dead, premium, years = entry
    return (age + 1, alive[1:], dead[1:], premium, max(0, years - 1))


def flow_at(policy, time):
    """Return what is expected to be paid at a time less the premium of that time."""
    lives, age = policy[0], policy[1]
    flow = multiplied(living_part(lives, age, time), net_paid_at(policy, time))
    if time == 0:
        return flow
    return plus(flow, multiplied(dying_part(lives, age, time - 1), entry_of(policy[4], time - 1)))


class Ledger:
    """Entries by their names, and what they were before each change."""

    def __init__(self, lives, rate):
        check_lives(lives)
        check_rate(rate)
        self.lives = lives
        self.rate = rate
        self.entries = {}
        self.earlier = []

    def put(self, name, entry):
        """Store an entry under a name, in place of the one that was there."""
        check_name(name)
        check_entry(self.lives, self.rate, entry)
        self.change({**self.entries, name: entry})

    def drop(self, name):
        """Take the entry of a name away, and return it."""
        found = self.get(name)
        self.change({other: entry for other, entry in self.entries.items() if other != name})
        return found

    def get(self, name):
        """Return the entry of a name."""
        check_name(name)
        if name not in self.entries:
            raise NoName("nothing is stored under this name")
        return self.entries[name]

    def names(self):
        """Return all names in ascending order."""
        return tuple(sorted(self.entries))

    def undo(self):
        """Take back the last change that has not been taken back."""
        if not self.earlier:
            raise NothingToUndo("there is no change left to take back")
        self.entries = self.earlier.pop()

    def change(self, entries):
        """Keep other entries instead, and the ones before them for undo."""
        self.earlier.append(self.entries)
        self.entries = entries

    def worth_of_all(self):
        """Return the sum of the worths of all policies."""
        return total([self.worth_of(entry) for entry in self.entries.values()])

    def worth_of(self, entry):
        """Return the worth of the policy of an entry."""
        return reserve_list(made_policy(self.lives, self.rate, entry))[0]

    def flows(self):
        """Return what is expected to be paid less the premiums, for each time up to the greatest span."""
        policies = [made_policy(self.lives, self.rate, entry) for entry in self.entries.values()]
        times = max([span_of(self.lives, policy[1]) + 1 for policy in policies], default=0)
        return tuple(total([flow_at(policy, time) for policy in policies]) for time in range(times))

    def age_on(self):
        """Move all policies one year on; those whose insured has no age of the table any more fall away."""
        older = {name: year_older(entry) for name, entry in self.entries.items()}
        self.change({name: entry for name, entry in older.items() if is_age(self.lives, entry[0])})

    def least_change(self, wanted):
        """Return the names and new worths of the policies whose worth other premiums would change."""
        if not isinstance(wanted, dict):
            raise BadWanted("premiums are wanted as a dict from names")
        if not all(isinstance(name, str) for name in wanted):
            raise BadName("a name is a string")
        names = sorted(wanted)
        for name in names:
            self.get(name)
            check_premium(wanted[name])
        pairs = []
        for name in names:
            entry = self.entries[name]
            changed = self.worth_of((*entry[:3], wanted[name], entry[4]))
            if changed != self.worth_of(entry):
                pairs.append((name, changed))
        return tuple(pairs)
