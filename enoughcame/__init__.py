"""Enoughcame: people who come when enough of others have come."""
