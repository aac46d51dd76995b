"""The meadow, its days, and their texts."""
