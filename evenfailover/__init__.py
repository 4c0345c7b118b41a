"""Preference lists that share shards exactly evenly."""
