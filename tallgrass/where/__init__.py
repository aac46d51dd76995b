"""Where the walkers can have been, alone and together, and days that pass stations."""
